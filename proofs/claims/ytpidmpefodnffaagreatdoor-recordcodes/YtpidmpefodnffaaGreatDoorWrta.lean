import Derived.Test.YtpidmpefodnffaaGreatDoorZcob
import Derived.Deep.RegionLaw
import Derived.Maps.AppendAt
import Derived.Lib.AppendStr
import Derived.BigQuiet
import Derived.Deep.QuietTactic
namespace Go.Proofs.YtpidmpefodnffaaGreatDoor
open Go.RowKit Go.Lib
theorem Only.drew (P : Nat → Prop) (w : World) : Only P w w.drew := ⟨rfl, rfl, rfl, Nat.le_refl _, fun _ _ _ => rfl⟩
/-- What was wrong, as the program keeps it. -/
def errV (E : Nat) : Value := if E = 0 then .nilIface else .iface 229 (.agg #[.int .i64 (E : Int)])
theorem errV_0 : errV 0 = .nilIface := rfl
theorem errV_ne {E : Nat} (h : E ≠ 0) : errV E = .iface 229 (.agg #[.int .i64 (E : Int)]) := by simp [errV, h]
/-- A Writer: what it has laid, what was wrong. -/
structure WAt (b : Nat) (v : Value) (X : List UInt8) (E : Nat) (w : World) : Prop where
  row : w.heap[b]? = some (.cells #[v, errV E] 225 (0, 0))
  own : w.ownsRow 0 5 1 v X.length (X.map B)
  ne : v.ownBlock ≠ some b
/-- Where a Writer stands. -/
def foot (b : Nat) (v : Value) : Nat → Prop := fun k => k = b ∨ v.ownBlock = some k
theorem ownsF_same {w w' : World} {v : Value} {n : Nat} {xs : List Value} (h : w.ownsRow 0 5 1 v n xs) (hb : ∀ k, v.ownBlock = some k → w'.heap[k]? = w.heap[k]?) : w'.ownsRow 0 5 1 v n xs := by
  refine ⟨h.1, ?_⟩
  rcases h.2 with q | ⟨g, cap, cur, e1, e2, e3, e4⟩
  · exact .inl q
  · exact .inr ⟨g, cap, cur, e1, e2, (hb g (by rw [e1]; rfl)).trans e3, e4⟩
theorem WAt.keep {b : Nat} {v : Value} {X : List UInt8} {E : Nat} {w w' : World} {P : Nat → Prop} (h : WAt b v X E w) (ho : Only P w w') (hb : ¬ P b) (hv : ∀ k, v.ownBlock = some k → ¬ P k) : WAt b v X E w' :=
  ⟨(ho.block b (lt_of_row h.row) hb).trans h.row, ownsF_same h.own (fun k hk => ho.block k ((World.ownsRowF_of h.own).lt k hk).2 (hv k hk)), h.ne⟩
theorem WAt.c0 {b : Nat} {v : Value} {X : List UInt8} {E : Nat} {w : World} (h : WAt b v X E w) : w.cell? ⟨b, 0, none⟩ = some v := by
  rw [cell_of_row w b 0 _ 225 (0, 0) h.row]; rfl
theorem WAt.c1 {b : Nat} {v : Value} {X : List UInt8} {E : Nat} {w : World} (h : WAt b v X E w) : w.cell? ⟨b, 1, none⟩ = some (errV E) := by
  rw [cell_of_row w b 1 _ 225 (0, 0) h.row]; rfl
theorem WAt.fz {b : Nat} {v : Value} {X : List UInt8} {E : Nat} {w : World} (h : WAt b v X E w) (j : Nat) : w.frozen? ⟨b, j, none⟩ = false := frozen_of_row w b j _ 225 h.row
theorem WAt.set1 {b : Nat} {v : Value} {X : List UInt8} {E E' : Nat} {w : World} (h : WAt b v X E w) : WAt b v X E' (w.setCell ⟨b, 1, none⟩ (errV E')) := by
  have hr := heap_setCell_same w b 1 _ 225 (errV E') h.row
  refine ⟨?_, ownsF_same h.own (fun k hk => heap_setCell_other w ⟨b, 1, none⟩ k _ (fun e => h.ne (by rw [hk, e]))), h.ne⟩
  simpa using hr
theorem ownsRow_form {w : World} {v : Value} {n : Nat} {xs : List Value} (h : w.ownsRow 0 5 1 v n xs) : ∃ p cap, v = .slice p n cap := by
  rcases h.2 with ⟨e, q⟩ | ⟨g, cap, cur, e1, e2⟩
  · exact ⟨none, 0, by rw [e, q]⟩
  · exact ⟨_, cap, e1⟩
/-- One more byte in a region whose order is drawn. -/
theorem step_push {ops : Array Oper} {o : Oper} {a : Act} {K : Act → World → Prop} {Q : Exit → Act → World → Prop} {R : Prop} (hgd : o.guard = none) (s x : Operand)
    (ho : o.op = .call { callee := .builtin .append, args := #[s, x], argTypes := #[105, 105] })
    (v : Value) (X : List UInt8) (hs : a.eval s = v) (w0 : World) (ci : Int) (c : UInt8) (hci : ci = (c.toNat : Int)) (hown : w0.ownsRow 0 5 1 v X.length (X.map B))
    (hx : a.eval x = .slice (some ⟨w0.heap.size, 0, none⟩) 1 1) (hlen : X.length + 1 ≤ 140737488355328)
    (h : ∀ p cap w', w'.ownsRow 0 5 1 (.slice p (X ++ [c]).length cap) (X ++ [c]).length ((X ++ [c]).map B) → Only (fun k => v.ownBlock = some k) w0 w' → (∀ k, (Value.slice p (X ++ [c]).length cap).ownBlock = some k → v.ownBlock = some k ∨ w0.heap.size ≤ k) → K (a.put o.dst (.slice p (X ++ [c]).length cap)) w') :
    if Region.wanted o (yielded ops a.tmps) = true then Oper.wp Tryz.prog o a (w0.alloc (.cells #[.int .u8 ci] 5)) K Q else R := by
  have hw : Region.wanted o (yielded ops a.tmps) = true := by simp [Region.wanted, hgd]
  rw [if_pos hw]
  subst hci
  obtain ⟨i0, hi, hz0, hz1, hz2⟩ := info_parts info5
  have hown' := ownsF_same (w' := w0.alloc (.cells #[.int .u8 (c.toNat : Int)] 5)) hown (fun k hk => Below.heap_alloc w0 _ k ((World.ownsRowF_of hown).lt k hk).2)
  have hnew : ∀ j u, [B c][j]? = some u → (w0.alloc (.cells #[.int .u8 (c.toNat : Int)] 5)).cell? ((⟨w0.heap.size, 0, none⟩ : Addr).add j) = some u := by
    intro j u hj
    match j, hj with
    | 0, hj => simp at hj; subst hj; simp [Addr.add, B]
    | (j + 1), hj => simp at hj
  obtain ⟨v', w', hr, h2, h3, _, h5⟩ := run_append_own_at (P := Tryz.prog) (w0.alloc (.cells #[.int .u8 (c.toNat : Int)] 5)) 0 105 o.type 5 i0 (.int .u8 0) 1 1 Tryz.underlying105 hi hz0 hz1 hz2 rfl (by decide) v X.length (X.map B) hown' ⟨w0.heap.size, 0, none⟩ 1 1 [B c] rfl hnew (by intro u hu; simp at hu; subst hu; rfl) (by unfold maxLen; omega) (by omega) (Nat.zero_le _)
  have hfresh : ∀ k, v'.ownBlock = some k → v.ownBlock = some k ∨ w0.heap.size ≤ k := by
    intro k hk
    rcases h5 with h5 | h5
    · left; rw [← h5]; exact hk
    · right; rw [hk] at h5; have := Option.some.inj h5; simp at this; omega
  unfold Oper.wp execOp
  simp only [ho, resolve, invoke, builtin, Sem.run_bind, Sem.run_pure, Result.andThen_ok, List.map_toArray, List.map_cons, List.map_nil, hs, hx, hr]
  have h2' : w'.ownsRow 0 5 1 v' (X ++ [c]).length ((X ++ [c]).map B) := by
    rw [List.length_append, List.map_append]
    exact h2
  obtain ⟨p, cap, rfl⟩ := ownsRow_form h2'
  exact h p cap w' h2' ((Only.alloc _ w0 _).trans (Only.of_grown h3) (fun k _ q => q)) hfresh
/-- The bytes of a text behind one's own. -/
theorem own_text {ops : Array Oper} {rest : List Oper} {o : Oper} {a : Act} {Q : Exit → Act → World → Prop} {w : World} (hgd : o.guard = none) (sl x : Operand)
    (ho : o.op = .call { callee := .builtin .append, args := #[sl, x], argTypes := #[105, 9] })
    (v : Value) (X : List UInt8) (hs : a.eval sl = v) (hown : w.ownsRow 0 5 1 v X.length (X.map B)) (s : List UInt8) (hx : a.eval x = .string ⟨s.toArray⟩) (hlen : X.length + s.length ≤ 140737488355328)
    (h : ∀ p cap w', w'.ownsRow 0 5 1 (.slice p (X ++ s).length cap) (X ++ s).length ((X ++ s).map B) → Only (fun k => v.ownBlock = some k) w w' → (∀ k, (Value.slice p (X ++ s).length cap).ownBlock = some k → v.ownBlock = some k ∨ w.heap.size ≤ k) → wpList Tryz.prog ops Q rest (a.put o.dst (.slice p (X ++ s).length cap)) w') : wpList Tryz.prog ops Q (o :: rest) a w := by
  refine wpList_plain hgd fun K hK => ?_
  obtain ⟨i0, hi, hz0, hz1, hz2⟩ := info_parts info5
  have hsz : (ByteArray.mk s.toArray).size = s.length := by simp [ByteArray.size]
  have e : strCells ⟨s.toArray⟩ = s.map B := by simp [strCells, B]
  obtain ⟨v', w', hr, h2, h3, _⟩ := run_append_own_string (P := Tryz.prog) w 0 105 9 o.type 5 i0 Tryz.underlying105 Tryz.underlying9 hi hz0 hz1 hz2 v X.length (X.map B) hown ⟨s.toArray⟩ (by rw [hsz]; unfold maxLen; omega) (by rw [hsz]; exact hlen) (Nat.zero_le _)
  have hfresh : ∀ k, v'.ownBlock = some k → v.ownBlock = some k ∨ w.heap.size ≤ k := by
    intro k hk
    rcases hown.2 with ⟨q1, q2⟩ | ⟨g, cap, cur, e1, e2, e3, e4, e5, e6, e7⟩
    · right
      have hX : X = [] := List.eq_nil_of_length_eq_zero q2
      subst hX q1
      obtain ⟨v2, w2, hr2, h22, _⟩ := run_append_own_string (P := Tryz.prog) w w.heap.size 105 9 o.type 5 i0 Tryz.underlying105 Tryz.underlying9 hi hz0 hz1 hz2 (.slice none 0 0) 0 [] (World.ownsRow_nil w _ _ _) ⟨s.toArray⟩ (by rw [hsz]; unfold maxLen; simp at hlen; omega) (by rw [hsz]; simp at hlen; omega) (Nat.le_refl _)
      rw [hr] at hr2
      injection hr2 with hv hw
      subst hv hw
      exact ((World.ownsRowF_of h22).lt k hk).1
    · subst e1
      by_cases hroom : X.length + (ByteArray.mk s.toArray).size ≤ cap
      · have hr2 := run_append_room_string (P := Tryz.prog) w 105 9 o.type 5 i0 Tryz.underlying105 Tryz.underlying9 hi hz1 g X.length cap cur e3 ⟨s.toArray⟩ hroom (by omega)
        rw [hr] at hr2
        injection hr2 with hv hw
        subst hv
        exact .inl hk
      · have holds : ∀ j u, (X.map B)[j]? = some u → w.cell? ((⟨g, 0, none⟩ : Addr).add j) = some u := hown.cells (g := g) rfl
        have hr2 := run_append_grow_string (P := Tryz.prog) w 105 9 o.type 5 i0 (.int .u8 0) Tryz.underlying105 Tryz.underlying9 hi hz0 ⟨g, 0, none⟩ X.length cap (X.map B) (by rw [hz1]; simp) holds ⟨s.toArray⟩ (by omega) (by rw [hsz]; omega) (by rw [hz2]; exact growslice_fits (by omega) (by rw [hsz]; omega))
        rw [hr] at hr2
        injection hr2 with hv hw
        subst hv
        right
        have : w.heap.size = k := by simpa [Value.ownBlock] using hk
        omega
  unfold Oper.wp execOp
  simp only [ho, resolve, invoke, builtin, Sem.run_bind, Sem.run_pure, Result.andThen_ok, List.map_toArray, List.map_cons, List.map_nil, hs, hx, hr]
  have h2' : w'.ownsRow 0 5 1 v' (X ++ s).length ((X ++ s).map B) := by
    rw [List.length_append, List.map_append]
    rw [hsz, e] at h2
    exact h2
  obtain ⟨p, cap, rfl⟩ := ownsRow_form h2'
  exact hK _ _ (h p cap w' h2' (Only.of_grown h3) hfresh)
theorem WAt.text {b : Nat} {v : Value} {X : List UInt8} {E : Nat} {w : World} (h : WAt b v X E w) : (convert 105 9 v).run Tryz.prog w = .ok (.string ⟨X.toArray⟩) w :=
  Own.text (base := 0) (W0 := w) ⟨World.ownsRowF_of h.own, Below.refl _ _, Nat.zero_le _⟩
end Go.Proofs.YtpidmpefodnffaaGreatDoor
