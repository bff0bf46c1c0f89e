import Derived.Test.YtpidmpefodnffaaGreatDoorZcob
import Derived.Deep.RegionLaw
import Derived.Maps.AppendAt
import Derived.Lib.AppendStr
import Derived.BigQuiet
import Derived.Deep.QuietTactic
import Derived.Laws.CopyRow
import Derived.Laws.MakeOwn
namespace Go.Proofs.YtpidmpefodnffaaGreatDoor
open Go.RowKit Go.Lib
theorem Only.drew (P : Nat → Prop) (w : World) : Only P w w.drew := ⟨rfl, rfl, rfl, Nat.le_refl _, fun _ _ _ => rfl⟩
/-- What was wrong, as the program keeps it. -/
def errV (E : Nat) : Value := if E = 0 then .nilIface else .iface 229 (.agg #[.int .i64 (E : Int)])
theorem errV_0 : errV 0 = .nilIface := rfl
theorem errV_ne {E : Nat} (h : E ≠ 0) : errV E = .iface 229 (.agg #[.int .i64 (E : Int)]) := by simp [errV, h]
/-- A Writer: what it has laid, what was wrong. -/
structure WAt (b : Nat) (v : Value) (X : List UInt8) (E : Nat) (w : World) : Prop where
  row : w.heap[b]? = some (.cells #[v, errV E] 225 (0, 0))
  own : w.ownsRow 0 5 1 v X.length (X.map B)
  ne : v.ownBlock ≠ some b
/-- Where a Writer stands. -/
def foot (b : Nat) (v : Value) : Nat → Prop := fun k => k = b ∨ v.ownBlock = some k
theorem ownsF_same {w w' : World} {v : Value} {n : Nat} {xs : List Value} (h : w.ownsRow 0 5 1 v n xs) (hb : ∀ k, v.ownBlock = some k → w'.heap[k]? = w.heap[k]?) : w'.ownsRow 0 5 1 v n xs := by
  refine ⟨h.1, ?_⟩
  rcases h.2 with q | ⟨g, cap, cur, e1, e2, e3, e4⟩
  · exact .inl q
  · exact .inr ⟨g, cap, cur, e1, e2, (hb g (by rw [e1]; rfl)).trans e3, e4⟩
theorem WAt.keep {b : Nat} {v : Value} {X : List UInt8} {E : Nat} {w w' : World} {P : Nat → Prop} (h : WAt b v X E w) (ho : Only P w w') (hb : ¬ P b) (hv : ∀ k, v.ownBlock = some k → ¬ P k) : WAt b v X E w' :=
  ⟨(ho.block b (lt_of_row h.row) hb).trans h.row, ownsF_same h.own (fun k hk => ho.block k ((World.ownsRowF_of h.own).lt k hk).2 (hv k hk)), h.ne⟩
theorem WAt.c0 {b : Nat} {v : Value} {X : List UInt8} {E : Nat} {w : World} (h : WAt b v X E w) : w.cell? ⟨b, 0, none⟩ = some v := by
  rw [cell_of_row w b 0 _ 225 (0, 0) h.row]; rfl
theorem WAt.c1 {b : Nat} {v : Value} {X : List UInt8} {E : Nat} {w : World} (h : WAt b v X E w) : w.cell? ⟨b, 1, none⟩ = some (errV E) := by
  rw [cell_of_row w b 1 _ 225 (0, 0) h.row]; rfl
theorem WAt.fz {b : Nat} {v : Value} {X : List UInt8} {E : Nat} {w : World} (h : WAt b v X E w) (j : Nat) : w.frozen? ⟨b, j, none⟩ = false := frozen_of_row w b j _ 225 h.row
theorem WAt.set1 {b : Nat} {v : Value} {X : List UInt8} {E E' : Nat} {w : World} (h : WAt b v X E w) : WAt b v X E' (w.setCell ⟨b, 1, none⟩ (errV E')) := by
  have hr := heap_setCell_same w b 1 _ 225 (errV E') h.row
  refine ⟨?_, ownsF_same h.own (fun k hk => heap_setCell_other w ⟨b, 1, none⟩ k _ (fun e => h.ne (by rw [hk, e]))), h.ne⟩
  simpa using hr
theorem ownsRow_form {w : World} {v : Value} {n : Nat} {xs : List Value} (h : w.ownsRow 0 5 1 v n xs) : ∃ p cap, v = .slice p n cap := by
  rcases h.2 with ⟨e, q⟩ | ⟨g, cap, cur, e1, e2⟩
  · exact ⟨none, 0, by rw [e, q]⟩
  · exact ⟨_, cap, e1⟩
/-- One more byte in a region whose order is drawn. -/
theorem step_push {ops : Array Oper} {o : Oper} {a : Act} {K : Act → World → Prop} {Q : Exit → Act → World → Prop} {R : Prop} (hgd : o.guard = none) (s x : Operand)
    (ho : o.op = .call { callee := .builtin .append, args := #[s, x], argTypes := #[105, 105] })
    (v : Value) (X : List UInt8) (hs : a.eval s = v) (w0 : World) (ci : Int) (c : UInt8) (hci : ci = (c.toNat : Int)) (hown : w0.ownsRow 0 5 1 v X.length (X.map B))
    (hx : a.eval x = .slice (some ⟨w0.heap.size, 0, none⟩) 1 1) (hlen : X.length + 1 ≤ 140737488355328)
    (h : ∀ p cap w', w'.ownsRow 0 5 1 (.slice p (X ++ [c]).length cap) (X ++ [c]).length ((X ++ [c]).map B) → Only (fun k => v.ownBlock = some k) w0 w' → (∀ k, (Value.slice p (X ++ [c]).length cap).ownBlock = some k → v.ownBlock = some k ∨ w0.heap.size ≤ k) → K (a.put o.dst (.slice p (X ++ [c]).length cap)) w') :
    if Region.wanted o (yielded ops a.tmps) = true then Oper.wp Tryz.prog o a (w0.alloc (.cells #[.int .u8 ci] 5)) K Q else R := by
  have hw : Region.wanted o (yielded ops a.tmps) = true := by simp [Region.wanted, hgd]
  rw [if_pos hw]
  subst hci
  obtain ⟨i0, hi, hz0, hz1, hz2⟩ := info_parts info5
  have hown' := ownsF_same (w' := w0.alloc (.cells #[.int .u8 (c.toNat : Int)] 5)) hown (fun k hk => Below.heap_alloc w0 _ k ((World.ownsRowF_of hown).lt k hk).2)
  have hnew : ∀ j u, [B c][j]? = some u → (w0.alloc (.cells #[.int .u8 (c.toNat : Int)] 5)).cell? ((⟨w0.heap.size, 0, none⟩ : Addr).add j) = some u := by
    intro j u hj
    match j, hj with
    | 0, hj => simp at hj; subst hj; simp [Addr.add, B]
    | (j + 1), hj => simp at hj
  obtain ⟨v', w', hr, h2, h3, _, h5⟩ := run_append_own_at (P := Tryz.prog) (w0.alloc (.cells #[.int .u8 (c.toNat : Int)] 5)) 0 105 o.type 5 i0 (.int .u8 0) 1 1 Tryz.underlying105 hi hz0 hz1 hz2 rfl (by decide) v X.length (X.map B) hown' ⟨w0.heap.size, 0, none⟩ 1 1 [B c] rfl hnew (by intro u hu; simp at hu; subst hu; rfl) (by unfold maxLen; omega) (by omega) (Nat.zero_le _)
  have hfresh : ∀ k, v'.ownBlock = some k → v.ownBlock = some k ∨ w0.heap.size ≤ k := by
    intro k hk
    rcases h5 with h5 | h5
    · left; rw [← h5]; exact hk
    · right; rw [hk] at h5; have := Option.some.inj h5; simp at this; omega
  unfold Oper.wp execOp
  simp only [ho, resolve, invoke, builtin, Sem.run_bind, Sem.run_pure, Result.andThen_ok, List.map_toArray, List.map_cons, List.map_nil, hs, hx, hr]
  have h2' : w'.ownsRow 0 5 1 v' (X ++ [c]).length ((X ++ [c]).map B) := by
    rw [List.length_append, List.map_append]
    exact h2
  obtain ⟨p, cap, rfl⟩ := ownsRow_form h2'
  exact h p cap w' h2' ((Only.alloc _ w0 _).trans (Only.of_grown h3) (fun k _ q => q)) hfresh
/-- The bytes of a text behind one's own. -/
theorem own_text {ops : Array Oper} {rest : List Oper} {o : Oper} {a : Act} {Q : Exit → Act → World → Prop} {w : World} (hgd : o.guard = none) (sl x : Operand)
    (ho : o.op = .call { callee := .builtin .append, args := #[sl, x], argTypes := #[105, 9] })
    (v : Value) (X : List UInt8) (hs : a.eval sl = v) (hown : w.ownsRow 0 5 1 v X.length (X.map B)) (s : List UInt8) (hx : a.eval x = .string ⟨s.toArray⟩) (hlen : X.length + s.length ≤ 140737488355328)
    (h : ∀ p cap w', w'.ownsRow 0 5 1 (.slice p (X ++ s).length cap) (X ++ s).length ((X ++ s).map B) → Only (fun k => v.ownBlock = some k) w w' → (∀ k, (Value.slice p (X ++ s).length cap).ownBlock = some k → v.ownBlock = some k ∨ w.heap.size ≤ k) → wpList Tryz.prog ops Q rest (a.put o.dst (.slice p (X ++ s).length cap)) w') : wpList Tryz.prog ops Q (o :: rest) a w := by
  refine wpList_plain hgd fun K hK => ?_
  obtain ⟨i0, hi, hz0, hz1, hz2⟩ := info_parts info5
  have hsz : (ByteArray.mk s.toArray).size = s.length := by simp [ByteArray.size]
  have e : strCells ⟨s.toArray⟩ = s.map B := by simp [strCells, B]
  obtain ⟨v', w', hr, h2, h3, _⟩ := run_append_own_string (P := Tryz.prog) w 0 105 9 o.type 5 i0 Tryz.underlying105 Tryz.underlying9 hi hz0 hz1 hz2 v X.length (X.map B) hown ⟨s.toArray⟩ (by rw [hsz]; unfold maxLen; omega) (by rw [hsz]; exact hlen) (Nat.zero_le _)
  have hfresh : ∀ k, v'.ownBlock = some k → v.ownBlock = some k ∨ w.heap.size ≤ k := by
    intro k hk
    rcases hown.2 with ⟨q1, q2⟩ | ⟨g, cap, cur, e1, e2, e3, e4, e5, e6, e7⟩
    · right
      have hX : X = [] := List.eq_nil_of_length_eq_zero q2
      subst hX q1
      obtain ⟨v2, w2, hr2, h22, _⟩ := run_append_own_string (P := Tryz.prog) w w.heap.size 105 9 o.type 5 i0 Tryz.underlying105 Tryz.underlying9 hi hz0 hz1 hz2 (.slice none 0 0) 0 [] (World.ownsRow_nil w _ _ _) ⟨s.toArray⟩ (by rw [hsz]; unfold maxLen; simp at hlen; omega) (by rw [hsz]; simp at hlen; omega) (Nat.le_refl _)
      rw [hr] at hr2
      injection hr2 with hv hw
      subst hv hw
      exact ((World.ownsRowF_of h22).lt k hk).1
    · subst e1
      by_cases hroom : X.length + (ByteArray.mk s.toArray).size ≤ cap
      · have hr2 := run_append_room_string (P := Tryz.prog) w 105 9 o.type 5 i0 Tryz.underlying105 Tryz.underlying9 hi hz1 g X.length cap cur e3 ⟨s.toArray⟩ hroom (by omega)
        rw [hr] at hr2
        injection hr2 with hv hw
        subst hv
        exact .inl hk
      · have holds : ∀ j u, (X.map B)[j]? = some u → w.cell? ((⟨g, 0, none⟩ : Addr).add j) = some u := hown.cells (g := g) rfl
        have hr2 := run_append_grow_string (P := Tryz.prog) w 105 9 o.type 5 i0 (.int .u8 0) Tryz.underlying105 Tryz.underlying9 hi hz0 ⟨g, 0, none⟩ X.length cap (X.map B) (by rw [hz1]; simp) holds ⟨s.toArray⟩ (by omega) (by rw [hsz]; omega) (by rw [hz2]; exact growslice_fits (by omega) (by rw [hsz]; omega))
        rw [hr] at hr2
        injection hr2 with hv hw
        subst hv
        right
        have : w.heap.size = k := by simpa [Value.ownBlock] using hk
        omega
  unfold Oper.wp execOp
  simp only [ho, resolve, invoke, builtin, Sem.run_bind, Sem.run_pure, Result.andThen_ok, List.map_toArray, List.map_cons, List.map_nil, hs, hx, hr]
  have h2' : w'.ownsRow 0 5 1 v' (X ++ s).length ((X ++ s).map B) := by
    rw [List.length_append, List.map_append]
    rw [hsz, e] at h2
    exact h2
  obtain ⟨p, cap, rfl⟩ := ownsRow_form h2'
  exact hK _ _ (h p cap w' h2' (Only.of_grown h3) hfresh)
theorem WAt.text {b : Nat} {v : Value} {X : List UInt8} {E : Nat} {w : World} (h : WAt b v X E w) : (convert 105 9 v).run Tryz.prog w = .ok (.string ⟨X.toArray⟩) w :=
  Own.text (base := 0) (W0 := w) ⟨World.ownsRowF_of h.own, Below.refl _ _, Nat.zero_le _⟩
end Go.Proofs.YtpidmpefodnffaaGreatDoor
namespace Go.Proofs.YtpidmpefodnffaaGreatDoor
open Go.RowKit Go.Lib
/-- A number by so many bytes, the highest first. -/
def be (size n : Nat) : List UInt8 := (List.range size).map fun i => UInt8.ofNat (n / 256 ^ (size - 1 - i))
theorem be_len (size n : Nat) : (be size n).length = size := by simp [be]
theorem be_next (size n k : Nat) (h : k < size) : (be size n).take (k + 1) = (be size n).take k ++ [UInt8.ofNat (n / 256 ^ (size - 1 - k))] := by
  rw [List.take_succ_eq_append_getElem (by rw [be_len]; exact h)]
  simp [be]
/-- What a Writer becomes. -/
def WTo (b : Nat) (v : Value) (X' : List UInt8) (E' : Nat) (w w' : World) : Prop :=
  ∃ v', WAt b v' X' E' w' ∧ Only (foot b v) w w' ∧ ∀ q, v'.ownBlock = some q → v.ownBlock = some q ∨ w.heap.size ≤ q
theorem WTo.step {b : Nat} {v v1 : Value} {X2 : List UInt8} {E2 : Nat} {w w1 w2 : World} (h1 : Only (foot b v) w w1) (h1f : ∀ q, v1.ownBlock = some q → v.ownBlock = some q ∨ w.heap.size ≤ q) (h2 : WTo b v1 X2 E2 w1 w2) : WTo b v X2 E2 w w2 := by
  obtain ⟨v2, a, o, f⟩ := h2
  refine ⟨v2, a, h1.trans o ?_, ?_⟩
  · intro k hk q
    rcases q with q | q
    · exact .inl q
    · rcases h1f k q with r | r
      · exact .inr r
      · omega
  · intro q hq
    rcases f q hq with r | r
    · exact h1f q r
    · exact .inr (Nat.le_trans h1.size r)
theorem WTo.same {b : Nat} {v : Value} {X : List UInt8} {E : Nat} {w : World} (h : WAt b v X E w) : WTo b v X E w w := ⟨v, h, Only.refl _ _, fun _ q => .inl q⟩
theorem WTo.err {b : Nat} {v : Value} {X : List UInt8} {E E' : Nat} {w : World} (h : WAt b v X E w) : WTo b v X E' w (w.setCell ⟨b, 1, none⟩ (errV E')) :=
  ⟨v, h.set1, (Only.setCell w ⟨b, 1, none⟩ (errV E')).trans (Only.refl (fun _ => False) _) (fun _ _ q => q.elim) |> fun o => ⟨o.os, o.tape, o.output, o.size, fun k hk hp => o.block k hk (fun e => hp (.inl e))⟩, fun _ q => .inl q⟩
set_option maxHeartbeats 1000000 in
theorem newwriter_any (w : World) :
    Calls Tryz.prog 150 #[] w fun e w' => e = .returned (.pointer (some ⟨w.heap.size, 0, none⟩)) ∧ WAt w.heap.size (.slice none 0 0) [] 0 w' ∧ Below w.heap.size w w' := by
  go_enter Tryz.func150, Tryz.ntmps150
  go_wp2
  go_ret
  refine ⟨rfl, ⟨?_, World.ownsRow_nil _ _ _ _, by simp [Value.ownBlock]⟩, (Below.refl _ _).alloc (Nat.le_refl _) _⟩
  exact heap_alloc_new _ _
theorem sized_any (size : Int) (w : World) :
    Calls Tryz.prog 159 #[.int .i64 size] w fun e w' => e = .returned (.bool (decide (1 ≤ size ∧ size ≤ 8))) ∧ w' = w := by
  by_cases h1 : 1 ≤ size
  · by_cases h8 : size ≤ 8
    · have hd : decide (1 ≤ size ∧ size ≤ 8) = true := by simp; omega
      rw [hd]
      go_enter Tryz.func159, Tryz.ntmps159
      go_wp2
      go_ret
      exact ⟨ret_bool (by simp), rfl⟩
    · have hd : decide (1 ≤ size ∧ size ≤ 8) = false := by simp; omega
      rw [hd]
      go_enter Tryz.func159, Tryz.ntmps159
      go_wp2
      go_ret
      exact ⟨ret_bool (by simp), rfl⟩
  · have hd : decide (1 ≤ size ∧ size ≤ 8) = false := by simp; omega
    have hd1 : decide (1 ≤ size) = false := by simp; omega
    rw [hd]
    go_enter Tryz.func159, Tryz.ntmps159
    go_wp2
    go_ret
    exact ⟨ret_bool (by simp), rfl⟩
theorem bounded_any (most : Int) (w : World) :
    Calls Tryz.prog 163 #[.int .i64 most] w fun e w' => e = .returned (.bool (decide (0 ≤ most ∧ most ≤ 65535))) ∧ w' = w := by
  by_cases h1 : 0 ≤ most
  · by_cases h8 : most ≤ 65535
    · have hd : decide (0 ≤ most ∧ most ≤ 65535) = true := by simp; omega
      rw [hd]
      go_enter Tryz.func163, Tryz.ntmps163
      go_wp2
      go_ret
      exact ⟨ret_bool (by simp), rfl⟩
    · have hd : decide (0 ≤ most ∧ most ≤ 65535) = false := by simp; omega
      rw [hd]
      go_enter Tryz.func163, Tryz.ntmps163
      go_wp2
      go_ret
      exact ⟨ret_bool (by simp), rfl⟩
  · have hd : decide (0 ≤ most ∧ most ≤ 65535) = false := by simp; omega
    have hd1 : decide (0 ≤ most) = false := by simp; omega
    rw [hd]
    go_enter Tryz.func163, Tryz.ntmps163
    go_wp2
    go_ret
    exact ⟨ret_bool (by simp), rfl⟩
/-- By how many bytes a text's length stands. -/
def ahd (most : Int) : Nat := if most ≤ 255 then 1 else 2
theorem lengthSize_any (most : Int) (w : World) :
    Calls Tryz.prog 164 #[.int .i64 most] w fun e w' => e = .returned (.int .i64 (ahd most)) ∧ w' = w := by
  by_cases h : most ≤ 255
  · have e : ahd most = 1 := by simp [ahd, h]
    rw [e]
    go_enter Tryz.func164, Tryz.ntmps164
    go_wp2
    go_ret
    exact ⟨rfl, rfl⟩
  · have e : ahd most = 2 := by simp [ahd, h]
    rw [e]
    go_enter Tryz.func164, Tryz.ntmps164
    go_wp2
    go_ret
    exact ⟨rfl, rfl⟩
/-- A number stands by so many bytes. -/
def stn (size : Nat) (n : Int) : Prop := 0 ≤ n ∧ n < 256 ^ size
theorem stands_any (size : Nat) (n : Int) (w : World) (h1 : 1 ≤ size) (h8 : size ≤ 8) (hn : n ≤ 9223372036854775807) (ok : Bool) (hok : ok = true ↔ stn size n) :
    Calls Tryz.prog 160 #[.int .i64 size, .int .i64 n] w fun e w' => e = .returned (.bool ok) ∧ w' = w := by
  unfold stn at hok
  by_cases h0 : 0 ≤ n
  · rcases (by omega : size = 1 ∨ size = 2 ∨ size = 3 ∨ size = 4 ∨ size = 5 ∨ size = 6 ∨ size = 7 ∨ size = 8) with rfl | rfl | rfl | rfl | rfl | rfl | rfl | rfl
    all_goals
      simp only [Int.reducePow] at hok
      have HOK := hide hok
      clear hok h1 h8
      go_enter Tryz.func160, Tryz.ntmps160
      go_wp2
      go_ret
      refine ⟨ret_bool ?_, rfl⟩
      have hok := unhide HOK
      rw [Bool.eq_iff_iff]
      rw [hok]
      simp
      omega
  · have hf : ok = false := by
      cases ok
      · rfl
      · exact absurd (hok.1 rfl).1 h0
    subst hf
    clear hok
    have hd : decide (0 ≤ n) = false := by simp; omega
    go_enter Tryz.func160, Tryz.ntmps160
    go_wp2
    go_ret
    exact ⟨ret_bool (by simp), rfl⟩
end Go.Proofs.YtpidmpefodnffaaGreatDoor
namespace Go.Proofs.YtpidmpefodnffaaGreatDoor
open Go.RowKit Go.Lib
theorem WAt.stored {b : Nat} {v v' : Value} {X X' : List UInt8} {E : Nat} {w w2 : World} (h : WAt b v X E w) (hown : w2.ownsRow 0 5 1 v' X'.length (X'.map B)) (ho : Only (fun k => v.ownBlock = some k) w w2) (hf : ∀ k, v'.ownBlock = some k → v.ownBlock = some k ∨ w.heap.size ≤ k) :
    WAt b v' X' E (w2.setCell ⟨b, 0, none⟩ v') ∧ Only (foot b v) w (w2.setCell ⟨b, 0, none⟩ v') := by
  have hlt := lt_of_row h.row
  have hrow : w2.heap[b]? = some (.cells #[v, errV E] 225 (0, 0)) := (ho.block b hlt h.ne).trans h.row
  have hne : v'.ownBlock ≠ some b := by
    intro q
    rcases hf b q with r | r
    · exact h.ne r
    · omega
  have hr := heap_setCell_same w2 b 0 _ 225 v' hrow
  refine ⟨⟨by simpa using hr, ownsF_same hown (fun k hk => heap_setCell_other w2 ⟨b, 0, none⟩ k _ (fun e => hne (by rw [hk, e]))), hne⟩, ?_⟩
  have o2 := Only.setCell w2 ⟨b, 0, none⟩ v'
  exact ⟨o2.os.trans ho.os, o2.tape.trans ho.tape, o2.output.trans ho.output, Nat.le_trans ho.size o2.size, fun k hk hp => (o2.block k (Nat.lt_of_lt_of_le hk ho.size) (fun e => hp (.inl e))).trans (ho.block k hk (fun e => hp (.inr e)))⟩
theorem Only.left_drew {P : Nat → Prop} {w w' : World} (h : Only P w.drew w') : Only P w w' := ⟨h.os, h.tape, h.output, h.size, h.block⟩
set_option maxHeartbeats 4000000 in
set_option maxRecDepth 8000 in
theorem lay_any (b : Nat) (v : Value) (X : List UInt8) (size n : Nat) (w : World) (h : WAt b v X 0 w) (h8 : size ≤ 8) (_hn : n < 9223372036854775808) (hX : X.length ≤ 70368744177664) :
    Calls Tryz.prog 161 #[.pointer (some ⟨b, 0, none⟩), .int .i64 size, .int .i64 n] w fun e w' => e = .returned (.tuple #[]) ∧ WTo b v (X ++ be size n) 0 w w' := by
  have H := hide h
  clear h
  go_enter Tryz.func161, Tryz.ntmps161
  go_wp2
  go_loopw [6] (fun i wr => ∃ k : Nat, k ≤ size ∧ i = .int .i64 ((size : Int) - 1 - (k : Int)) ∧ WTo b v (X ++ (be size n).take k) 0 w wr) (fun i _ => (intOf i + 1).toNat)
  case atStart => exact ⟨0, by omega, by simp, by simpa using WTo.same (unhide H)⟩
  case round =>
    clear H
    obtain ⟨k, hk, rfl, v1, h1, ho1, hf1⟩ := hrel
    by_cases hlt : k < size
    · obtain ⟨j, hj⟩ : ∃ j : Nat, size - 1 - k = j := ⟨_, rfl⟩
      have hji : (size : Int) - 1 - (k : Int) = (j : Int) := by omega
      have HNX := hide (be_next size n k hlt)
      rw [hj] at HNX
      have hj8 : j < 8 := by omega
      have hxl : (X ++ (be size n).take k).length ≤ 70368744177672 := by rw [List.length_append, List.length_take, be_len]; omega
      generalize (be size n).take k = Y at *
      have c0 := h1.c0
      have f0 := h1.fz 0
      have hblt := lt_of_row h1.row
      have HW := hide h1
      have HO := hide ho1
      have HF := hide hf1
      clear h1 ho1 hf1
      rw [hji]
      rcases (by omega : j = 0 ∨ j = 1 ∨ j = 2 ∨ j = 3 ∨ j = 4 ∨ j = 5 ∨ j = 6 ∨ j = 7) with rfl | rfl | rfl | rfl | rfl | rfl | rfl | rfl
      all_goals go_wp2
      · have HM : Hid (256 ^ 0 = 1) := hide (by decide)
        rw [unhide HM] at HNX
        have hw8 : IntKind.i64.wrap 0 = 0 := by decide
        go_region_law (refine step_push rfl (.tmp 17) (.tmp 23) rfl v1 (X ++ Y) (by rfl) wr.drew _ (UInt8.ofNat (n / 1)) (by first | (rw [IntKind.wrap_u8, UInt8.toNat_ofNat']; omega) | (rw [UInt8.toNat_ofNat']; omega)) (unhide HW).own (by rfl) (by omega) ?_; intro p2 cap2 w2 hown2 hon2 hfr2; generalize hl2 : (X ++ Y ++ [UInt8.ofNat (n / 1)]).length = len2 at *; have HL2 := hide hl2; clear hl2; have c2 : w2.cell? ⟨b, 0, none⟩ = some v1 := (Only.left_drew hon2 |> fun o => World.cell?_of_block (o.block b (lt_of_row (unhide HW).row) (unhide HW).ne)).trans (unhide HW).c0; have f2 : w2.frozen? ⟨b, 0, none⟩ = false := by (have o := Only.left_drew hon2; unfold World.frozen?; rw [o.block b (lt_of_row (unhide HW).row) (unhide HW).ne]; exact (unhide HW).fz 0))
        all_goals go_wp2
        all_goals (
          go_roundw
          case rel =>
            have hl2 := unhide HL2
            subst hl2
            obtain ⟨hA, hO⟩ := (unhide HW).stored hown2 (Only.left_drew hon2) hfr2
            refine ⟨k + 1, by omega, by first | (simp; omega) | (congr 1; omega), ?_⟩
            rw [unhide HNX, ← List.append_assoc]
            exact WTo.step (unhide HO) (unhide HF) ⟨_, hA, hO, hfr2⟩
          case measure => first | (simp [intOf]; done) | (simp [intOf]; omega))
      · have HM : Hid (256 ^ 1 = 256) := hide (by decide)
        rw [unhide HM] at HNX
        have hw8 : IntKind.i64.wrap 8 = 8 := by decide
        go_region_law (refine step_push rfl (.tmp 17) (.tmp 23) rfl v1 (X ++ Y) (by rfl) wr.drew _ (UInt8.ofNat (n / 256)) (by first | (rw [IntKind.wrap_u8, UInt8.toNat_ofNat']; omega) | (rw [UInt8.toNat_ofNat']; omega)) (unhide HW).own (by rfl) (by omega) ?_; intro p2 cap2 w2 hown2 hon2 hfr2; generalize hl2 : (X ++ Y ++ [UInt8.ofNat (n / 256)]).length = len2 at *; have HL2 := hide hl2; clear hl2; have c2 : w2.cell? ⟨b, 0, none⟩ = some v1 := (Only.left_drew hon2 |> fun o => World.cell?_of_block (o.block b (lt_of_row (unhide HW).row) (unhide HW).ne)).trans (unhide HW).c0; have f2 : w2.frozen? ⟨b, 0, none⟩ = false := by (have o := Only.left_drew hon2; unfold World.frozen?; rw [o.block b (lt_of_row (unhide HW).row) (unhide HW).ne]; exact (unhide HW).fz 0))
        all_goals go_wp2
        all_goals (
          go_roundw
          case rel =>
            have hl2 := unhide HL2
            subst hl2
            obtain ⟨hA, hO⟩ := (unhide HW).stored hown2 (Only.left_drew hon2) hfr2
            refine ⟨k + 1, by omega, by first | (simp; omega) | (congr 1; omega), ?_⟩
            rw [unhide HNX, ← List.append_assoc]
            exact WTo.step (unhide HO) (unhide HF) ⟨_, hA, hO, hfr2⟩
          case measure => first | (simp [intOf]; done) | (simp [intOf]; omega))
      · have HM : Hid (256 ^ 2 = 65536) := hide (by decide)
        rw [unhide HM] at HNX
        have hw8 : IntKind.i64.wrap 16 = 16 := by decide
        go_region_law (refine step_push rfl (.tmp 17) (.tmp 23) rfl v1 (X ++ Y) (by rfl) wr.drew _ (UInt8.ofNat (n / 65536)) (by first | (rw [IntKind.wrap_u8, UInt8.toNat_ofNat']; omega) | (rw [UInt8.toNat_ofNat']; omega)) (unhide HW).own (by rfl) (by omega) ?_; intro p2 cap2 w2 hown2 hon2 hfr2; generalize hl2 : (X ++ Y ++ [UInt8.ofNat (n / 65536)]).length = len2 at *; have HL2 := hide hl2; clear hl2; have c2 : w2.cell? ⟨b, 0, none⟩ = some v1 := (Only.left_drew hon2 |> fun o => World.cell?_of_block (o.block b (lt_of_row (unhide HW).row) (unhide HW).ne)).trans (unhide HW).c0; have f2 : w2.frozen? ⟨b, 0, none⟩ = false := by (have o := Only.left_drew hon2; unfold World.frozen?; rw [o.block b (lt_of_row (unhide HW).row) (unhide HW).ne]; exact (unhide HW).fz 0))
        all_goals go_wp2
        all_goals (
          go_roundw
          case rel =>
            have hl2 := unhide HL2
            subst hl2
            obtain ⟨hA, hO⟩ := (unhide HW).stored hown2 (Only.left_drew hon2) hfr2
            refine ⟨k + 1, by omega, by first | (simp; omega) | (congr 1; omega), ?_⟩
            rw [unhide HNX, ← List.append_assoc]
            exact WTo.step (unhide HO) (unhide HF) ⟨_, hA, hO, hfr2⟩
          case measure => first | (simp [intOf]; done) | (simp [intOf]; omega))
      · have HM : Hid (256 ^ 3 = 16777216) := hide (by decide)
        rw [unhide HM] at HNX
        have hw8 : IntKind.i64.wrap 24 = 24 := by decide
        go_region_law (refine step_push rfl (.tmp 17) (.tmp 23) rfl v1 (X ++ Y) (by rfl) wr.drew _ (UInt8.ofNat (n / 16777216)) (by first | (rw [IntKind.wrap_u8, UInt8.toNat_ofNat']; omega) | (rw [UInt8.toNat_ofNat']; omega)) (unhide HW).own (by rfl) (by omega) ?_; intro p2 cap2 w2 hown2 hon2 hfr2; generalize hl2 : (X ++ Y ++ [UInt8.ofNat (n / 16777216)]).length = len2 at *; have HL2 := hide hl2; clear hl2; have c2 : w2.cell? ⟨b, 0, none⟩ = some v1 := (Only.left_drew hon2 |> fun o => World.cell?_of_block (o.block b (lt_of_row (unhide HW).row) (unhide HW).ne)).trans (unhide HW).c0; have f2 : w2.frozen? ⟨b, 0, none⟩ = false := by (have o := Only.left_drew hon2; unfold World.frozen?; rw [o.block b (lt_of_row (unhide HW).row) (unhide HW).ne]; exact (unhide HW).fz 0))
        all_goals go_wp2
        all_goals (
          go_roundw
          case rel =>
            have hl2 := unhide HL2
            subst hl2
            obtain ⟨hA, hO⟩ := (unhide HW).stored hown2 (Only.left_drew hon2) hfr2
            refine ⟨k + 1, by omega, by first | (simp; omega) | (congr 1; omega), ?_⟩
            rw [unhide HNX, ← List.append_assoc]
            exact WTo.step (unhide HO) (unhide HF) ⟨_, hA, hO, hfr2⟩
          case measure => first | (simp [intOf]; done) | (simp [intOf]; omega))
      · have HM : Hid (256 ^ 4 = 4294967296) := hide (by decide)
        rw [unhide HM] at HNX
        have hw8 : IntKind.i64.wrap 32 = 32 := by decide
        go_region_law (refine step_push rfl (.tmp 17) (.tmp 23) rfl v1 (X ++ Y) (by rfl) wr.drew _ (UInt8.ofNat (n / 4294967296)) (by first | (rw [IntKind.wrap_u8, UInt8.toNat_ofNat']; omega) | (rw [UInt8.toNat_ofNat']; omega)) (unhide HW).own (by rfl) (by omega) ?_; intro p2 cap2 w2 hown2 hon2 hfr2; generalize hl2 : (X ++ Y ++ [UInt8.ofNat (n / 4294967296)]).length = len2 at *; have HL2 := hide hl2; clear hl2; have c2 : w2.cell? ⟨b, 0, none⟩ = some v1 := (Only.left_drew hon2 |> fun o => World.cell?_of_block (o.block b (lt_of_row (unhide HW).row) (unhide HW).ne)).trans (unhide HW).c0; have f2 : w2.frozen? ⟨b, 0, none⟩ = false := by (have o := Only.left_drew hon2; unfold World.frozen?; rw [o.block b (lt_of_row (unhide HW).row) (unhide HW).ne]; exact (unhide HW).fz 0))
        all_goals go_wp2
        all_goals (
          go_roundw
          case rel =>
            have hl2 := unhide HL2
            subst hl2
            obtain ⟨hA, hO⟩ := (unhide HW).stored hown2 (Only.left_drew hon2) hfr2
            refine ⟨k + 1, by omega, by first | (simp; omega) | (congr 1; omega), ?_⟩
            rw [unhide HNX, ← List.append_assoc]
            exact WTo.step (unhide HO) (unhide HF) ⟨_, hA, hO, hfr2⟩
          case measure => first | (simp [intOf]; done) | (simp [intOf]; omega))
      · have HM : Hid (256 ^ 5 = 1099511627776) := hide (by decide)
        rw [unhide HM] at HNX
        have hw8 : IntKind.i64.wrap 40 = 40 := by decide
        go_region_law (refine step_push rfl (.tmp 17) (.tmp 23) rfl v1 (X ++ Y) (by rfl) wr.drew _ (UInt8.ofNat (n / 1099511627776)) (by first | (rw [IntKind.wrap_u8, UInt8.toNat_ofNat']; omega) | (rw [UInt8.toNat_ofNat']; omega)) (unhide HW).own (by rfl) (by omega) ?_; intro p2 cap2 w2 hown2 hon2 hfr2; generalize hl2 : (X ++ Y ++ [UInt8.ofNat (n / 1099511627776)]).length = len2 at *; have HL2 := hide hl2; clear hl2; have c2 : w2.cell? ⟨b, 0, none⟩ = some v1 := (Only.left_drew hon2 |> fun o => World.cell?_of_block (o.block b (lt_of_row (unhide HW).row) (unhide HW).ne)).trans (unhide HW).c0; have f2 : w2.frozen? ⟨b, 0, none⟩ = false := by (have o := Only.left_drew hon2; unfold World.frozen?; rw [o.block b (lt_of_row (unhide HW).row) (unhide HW).ne]; exact (unhide HW).fz 0))
        all_goals go_wp2
        all_goals (
          go_roundw
          case rel =>
            have hl2 := unhide HL2
            subst hl2
            obtain ⟨hA, hO⟩ := (unhide HW).stored hown2 (Only.left_drew hon2) hfr2
            refine ⟨k + 1, by omega, by first | (simp; omega) | (congr 1; omega), ?_⟩
            rw [unhide HNX, ← List.append_assoc]
            exact WTo.step (unhide HO) (unhide HF) ⟨_, hA, hO, hfr2⟩
          case measure => first | (simp [intOf]; done) | (simp [intOf]; omega))
      · have HM : Hid (256 ^ 6 = 281474976710656) := hide (by decide)
        rw [unhide HM] at HNX
        have hw8 : IntKind.i64.wrap 48 = 48 := by decide
        go_region_law (refine step_push rfl (.tmp 17) (.tmp 23) rfl v1 (X ++ Y) (by rfl) wr.drew _ (UInt8.ofNat (n / 281474976710656)) (by first | (rw [IntKind.wrap_u8, UInt8.toNat_ofNat']; omega) | (rw [UInt8.toNat_ofNat']; omega)) (unhide HW).own (by rfl) (by omega) ?_; intro p2 cap2 w2 hown2 hon2 hfr2; generalize hl2 : (X ++ Y ++ [UInt8.ofNat (n / 281474976710656)]).length = len2 at *; have HL2 := hide hl2; clear hl2; have c2 : w2.cell? ⟨b, 0, none⟩ = some v1 := (Only.left_drew hon2 |> fun o => World.cell?_of_block (o.block b (lt_of_row (unhide HW).row) (unhide HW).ne)).trans (unhide HW).c0; have f2 : w2.frozen? ⟨b, 0, none⟩ = false := by (have o := Only.left_drew hon2; unfold World.frozen?; rw [o.block b (lt_of_row (unhide HW).row) (unhide HW).ne]; exact (unhide HW).fz 0))
        all_goals go_wp2
        all_goals (
          go_roundw
          case rel =>
            have hl2 := unhide HL2
            subst hl2
            obtain ⟨hA, hO⟩ := (unhide HW).stored hown2 (Only.left_drew hon2) hfr2
            refine ⟨k + 1, by omega, by first | (simp; omega) | (congr 1; omega), ?_⟩
            rw [unhide HNX, ← List.append_assoc]
            exact WTo.step (unhide HO) (unhide HF) ⟨_, hA, hO, hfr2⟩
          case measure => first | (simp [intOf]; done) | (simp [intOf]; omega))
      · have HM : Hid (256 ^ 7 = 72057594037927936) := hide (by decide)
        rw [unhide HM] at HNX
        have hw8 : IntKind.i64.wrap 56 = 56 := by decide
        go_region_law (refine step_push rfl (.tmp 17) (.tmp 23) rfl v1 (X ++ Y) (by rfl) wr.drew _ (UInt8.ofNat (n / 72057594037927936)) (by first | (rw [IntKind.wrap_u8, UInt8.toNat_ofNat']; omega) | (rw [UInt8.toNat_ofNat']; omega)) (unhide HW).own (by rfl) (by omega) ?_; intro p2 cap2 w2 hown2 hon2 hfr2; generalize hl2 : (X ++ Y ++ [UInt8.ofNat (n / 72057594037927936)]).length = len2 at *; have HL2 := hide hl2; clear hl2; have c2 : w2.cell? ⟨b, 0, none⟩ = some v1 := (Only.left_drew hon2 |> fun o => World.cell?_of_block (o.block b (lt_of_row (unhide HW).row) (unhide HW).ne)).trans (unhide HW).c0; have f2 : w2.frozen? ⟨b, 0, none⟩ = false := by (have o := Only.left_drew hon2; unfold World.frozen?; rw [o.block b (lt_of_row (unhide HW).row) (unhide HW).ne]; exact (unhide HW).fz 0))
        all_goals go_wp2
        all_goals (
          go_roundw
          case rel =>
            have hl2 := unhide HL2
            subst hl2
            obtain ⟨hA, hO⟩ := (unhide HW).stored hown2 (Only.left_drew hon2) hfr2
            refine ⟨k + 1, by omega, by first | (simp; omega) | (congr 1; omega), ?_⟩
            rw [unhide HNX, ← List.append_assoc]
            exact WTo.step (unhide HO) (unhide HF) ⟨_, hA, hO, hfr2⟩
          case measure => first | (simp [intOf]; done) | (simp [intOf]; omega))
    · have hkk : k = size := by omega
      subst hkk
      have hfull : (be k n).take k = be k n := List.take_of_length_le (by rw [be_len]; omega)
      rw [hfull] at h1
      have hres := hide (show WTo b v (X ++ be k n) 0 w wr from ⟨v1, h1, ho1, hf1⟩)
      clear h1 ho1 hf1 hfull
      have e1 : (k : Int) - 1 - (k : Int) = -1 := by omega
      rw [e1]
      go_wp2
      go_end0
      exact ⟨rfl, unhide hres⟩
end Go.Proofs.YtpidmpefodnffaaGreatDoor
namespace Go.Proofs.YtpidmpefodnffaaGreatDoor
open Go.RowKit Go.Lib
def stnB (size : Nat) (n : Int) : Bool := decide (0 ≤ n ∧ n < 256 ^ size)
theorem stnB_iff (size : Nat) (n : Int) : stnB size n = true ↔ stn size n := by simp [stnB, stn]
/-- What is wrong with Num. -/
def numE (size n : Int) : Nat := if 1 ≤ size ∧ size ≤ 8 then (if stnB size.toNat n = true then 0 else 20) else 1
/-- What is wrong with Text. -/
def textE (most : Int) (len : Nat) : Nat := if 0 ≤ most ∧ most ≤ 65535 then (if (len : Int) ≤ most then 0 else 21) else 1
/-- A Writer behind a call: what it has, what is wrong. -/
def wPut (X : List UInt8) (E e : Nat) (Y : List UInt8) : List UInt8 × Nat := if E ≠ 0 then (X, E) else if e ≠ 0 then (X, e) else (X ++ Y, 0)
theorem wPut_old {X : List UInt8} {E e : Nat} {Y : List UInt8} (h : E ≠ 0) : wPut X E e Y = (X, E) := by simp [wPut, h]
theorem wPut_bad {X : List UInt8} {e : Nat} {Y : List UInt8} (h : e ≠ 0) : wPut X 0 e Y = (X, e) := by simp [wPut, h]
theorem wPut_ok {X : List UInt8} {Y : List UInt8} : wPut X 0 0 Y = (X ++ Y, 0) := by simp [wPut]
def numY (size n : Int) : List UInt8 := be size.toNat n.toNat
def textY (most : Int) (s : List UInt8) : List UInt8 := be (ahd most) s.length ++ s
set_option maxHeartbeats 1000000 in
theorem wraw_any (b : Nat) (v : Value) (X : List UInt8) (E : Nat) (s : List UInt8) (w : World) (h : WAt b v X E w) (hX : X.length + s.length ≤ 70368744177664) :
    Calls Tryz.prog 132 #[.pointer (some ⟨b, 0, none⟩), .string ⟨s.toArray⟩] w fun e w' => e = .returned (.tuple #[]) ∧ WTo b v (wPut X E 0 s).1 (wPut X E 0 s).2 w w' := by
  have c0 := h.c0
  have c1 := h.c1
  have f0 := h.fz 0
  by_cases hE : E = 0
  · subst hE
    rw [wPut_ok]
    rw [errV_0] at c1
    have H := hide h
    clear h
    go_enter Tryz.func132, Tryz.ntmps132
    go_wp2_with (at_builtin; refine own_text rfl (.tmp 13) (.tmp 14) rfl v X (by rfl) (unhide H).own s (by rfl) (by omega) ?_; intro p2 cap2 w2 hown2 hon2 hfr2; generalize hl2 : (X ++ s).length = len2 at *; have HL2 := hide hl2; clear hl2; have c2 : w2.cell? ⟨b, 0, none⟩ = some v := (World.cell?_of_block (hon2.block b (lt_of_row (unhide H).row) (unhide H).ne)).trans (unhide H).c0; have f2 : w2.frozen? ⟨b, 0, none⟩ = false := by (unfold World.frozen?; rw [hon2.block b (lt_of_row (unhide H).row) (unhide H).ne]; exact (unhide H).fz 0))
    go_end0
    have hl2 := unhide HL2
    subst hl2
    obtain ⟨hA, hO⟩ := (unhide H).stored hown2 hon2 hfr2
    exact ⟨rfl, _, hA, hO, hfr2⟩
  · rw [wPut_old hE]
    rw [errV_ne hE] at c1
    have H := hide h
    clear h
    go_enter Tryz.func132, Tryz.ntmps132
    go_wp2
    go_end0
    exact ⟨rfl, WTo.same (unhide H)⟩
set_option maxHeartbeats 1000000 in
theorem wnum_any (b : Nat) (v : Value) (X : List UInt8) (E : Nat) (size n : Int) (w : World) (h : WAt b v X E w) (hn : n ≤ 9223372036854775807) (hX : X.length ≤ 70368744177664) :
    Calls Tryz.prog 135 #[.pointer (some ⟨b, 0, none⟩), .int .i64 size, .int .i64 n] w fun e w' => e = .returned (.tuple #[]) ∧ WTo b v (wPut X E (numE size n) (numY size n)).1 (wPut X E (numE size n) (numY size n)).2 w w' := by
  have c1 := h.c1
  have f1 := h.fz 1
  by_cases hE : E = 0
  · subst hE
    rw [errV_0] at c1
    have H := hide h
    clear h
    by_cases hs : 1 ≤ size ∧ size ≤ 8
    · obtain ⟨k, hk⟩ : ∃ k : Nat, size = (k : Int) := ⟨size.toNat, by omega⟩
      subst hk
      have hk1 : 1 ≤ k := by omega
      have hk8 : k ≤ 8 := by omega
      have hsd : decide (1 ≤ (k : Int) ∧ (k : Int) ≤ 8) = true := by simpa using hs
      by_cases hst : stnB k n = true
      · have he : numE k n = 0 := by simp [numE, hs, hst]
        obtain ⟨m, hm⟩ : ∃ m : Nat, n = (m : Int) := ⟨n.toNat, by have := (stnB_iff k n).1 hst; unfold stn at this; omega⟩
        subst hm
        rw [he, wPut_ok]
        have hy : numY k m = be k m := by simp [numY]
        rw [hy]
        have hst' := stands_any k (m : Int) w hk1 hk8 hn true (by rw [← stnB_iff, hst])
        have HST := hide hst'
        clear hs hst he hy hst'
        go_enter Tryz.func135, Tryz.ntmps135
        go_wp2_with fail
        refine (sized_any (k : Int) w).mono ?_
        rintro e w' ⟨rfl, rfl⟩
        rw [hsd]
        go_wp2_with fail
        refine (unhide HST).mono ?_
        rintro e w'' ⟨rfl, rfl⟩
        go_wp2_with fail
        refine (lay_any b v X k m w'' (unhide H) hk8 (by omega) hX).mono ?_
        rintro e w3 ⟨rfl, hto⟩
        go_wp2
        go_end0
        exact ⟨rfl, hto⟩
      · have hst0 : stnB k n = false := by simpa using hst
        have he : numE k n = 20 := by simp [numE, hs, hst0]
        rw [he, wPut_bad (by decide)]
        have hst' := stands_any k n w hk1 hk8 hn false (by rw [← stnB_iff, hst0])
        have HST := hide hst'
        clear hs hst he hst' hst0
        go_enter Tryz.func135, Tryz.ntmps135
        go_wp2_with fail
        refine (sized_any (k : Int) w).mono ?_
        rintro e w' ⟨rfl, rfl⟩
        rw [hsd]
        go_wp2_with fail
        refine (unhide HST).mono ?_
        rintro e w'' ⟨rfl, rfl⟩
        go_wp2
        go_end0
        exact ⟨rfl, WTo.err (E' := 20) (unhide H)⟩
    · have he : numE size n = 1 := by simp [numE, hs]
      have hsd : decide (1 ≤ size ∧ size ≤ 8) = false := by simpa using hs
      rw [he, wPut_bad (by decide)]
      clear hs he
      go_enter Tryz.func135, Tryz.ntmps135
      go_wp2_with fail
      refine (sized_any size w).mono ?_
      rintro e w' ⟨rfl, rfl⟩
      rw [hsd]
      go_wp2
      go_end0
      exact ⟨rfl, WTo.err (E' := 1) (unhide H)⟩
  · rw [wPut_old hE]
    rw [errV_ne hE] at c1
    have H := hide h
    clear h
    go_enter Tryz.func135, Tryz.ntmps135
    go_wp2
    go_end0
    exact ⟨rfl, WTo.same (unhide H)⟩
theorem be1_len (most : Int) (n : Nat) : (be (ahd most) n).length ≤ 2 := by rw [be_len]; unfold ahd; split <;> omega
set_option maxHeartbeats 1000000 in
theorem wtext_any (b : Nat) (v : Value) (X : List UInt8) (E : Nat) (most : Int) (s : List UInt8) (w : World) (h : WAt b v X E w) (hX : X.length + s.length + 2 ≤ 70368744177664) :
    Calls Tryz.prog 137 #[.pointer (some ⟨b, 0, none⟩), .int .i64 most, .string ⟨s.toArray⟩] w fun e w' => e = .returned (.tuple #[]) ∧ WTo b v (wPut X E (textE most s.length) (textY most s)).1 (wPut X E (textE most s.length) (textY most s)).2 w w' := by
  have c1 := h.c1
  have f1 := h.fz 1
  by_cases hE : E = 0
  · subst hE
    rw [errV_0] at c1
    have H := hide h
    clear h
    by_cases hs : 0 ≤ most ∧ most ≤ 65535
    · have hsd : decide (0 ≤ most ∧ most ≤ 65535) = true := by simpa using hs
      by_cases hl : (s.length : Int) ≤ most
      · have he : textE most s.length = 0 := by simp [textE, hs, hl]
        rw [he, wPut_ok]
        have ha8 : ahd most ≤ 8 := by unfold ahd; split <;> omega
        have hbl := be1_len most s.length
        have hld : decide ((s.length : Int) > most) = false := by simp; omega
        have hs2 := hs.2
        clear hs he
        go_enter Tryz.func137, Tryz.ntmps137
        go_wp2_with fail
        refine (bounded_any most w).mono ?_
        rintro e w' ⟨rfl, rfl⟩
        rw [hsd]
        go_wp2_with fail
        refine (lengthSize_any most w').mono ?_
        rintro e w'' ⟨rfl, rfl⟩
        go_wp2_with fail
        refine (lay_any b v X (ahd most) s.length w'' (unhide H) ha8 (by omega) (by omega)).mono ?_
        rintro e w3 ⟨rfl, v3, hA3, hO3, hf3⟩
        have HA3 := hide hA3
        clear hA3
        go_wp2_with fail
        refine (wraw_any b v3 (X ++ be (ahd most) s.length) 0 s w3 (unhide HA3) (by rw [List.length_append]; omega)).mono ?_
        rintro e w4 ⟨rfl, hto⟩
        rw [wPut_ok] at hto
        go_wp2
        go_end0
        refine ⟨rfl, WTo.step hO3 hf3 ?_⟩
        rw [textY, ← List.append_assoc]
        exact hto
      · have he : textE most s.length = 21 := by simp [textE, hs, hl]
        rw [he, wPut_bad (by decide)]
        have hld : decide ((s.length : Int) > most) = true := by simp; omega
        clear hs he
        go_enter Tryz.func137, Tryz.ntmps137
        go_wp2_with fail
        refine (bounded_any most w).mono ?_
        rintro e w' ⟨rfl, rfl⟩
        rw [hsd]
        go_wp2
        go_end0
        exact ⟨rfl, WTo.err (E' := 21) (unhide H)⟩
    · have he : textE most s.length = 1 := by simp [textE, hs]
      have hsd : decide (0 ≤ most ∧ most ≤ 65535) = false := by simpa using hs
      rw [he, wPut_bad (by decide)]
      clear hs he
      go_enter Tryz.func137, Tryz.ntmps137
      go_wp2_with fail
      refine (bounded_any most w).mono ?_
      rintro e w' ⟨rfl, rfl⟩
      rw [hsd]
      go_wp2
      go_end0
      exact ⟨rfl, WTo.err (E' := 1) (unhide H)⟩
  · rw [wPut_old hE]
    rw [errV_ne hE] at c1
    have H := hide h
    clear h
    go_enter Tryz.func137, Tryz.ntmps137
    go_wp2
    go_end0
    exact ⟨rfl, WTo.same (unhide H)⟩
theorem as_nil (t : Value) (w : World) :
    Calls Tryz.prog 165 #[.nilIface, t] w fun e w' => e = .returned (.bool false) ∧ w' = w := by
  go_enter Tryz.func165, Tryz.ntmps165
  go_wp2
  go_ret
  exact ⟨rfl, rfl⟩
set_option maxHeartbeats 1000000 in
theorem wdone_ok (b : Nat) (v : Value) (X : List UInt8) (w : World) (h : WAt b v X 0 w) :
    Calls Tryz.prog 151 #[.pointer (some ⟨b, 0, none⟩)] w fun e w' => e = .returned (.tuple #[.string ⟨X.toArray⟩, .int .i64 0]) ∧ Below w.heap.size w w' := by
  have c0 := h.c0
  have c1 := h.c1
  rw [errV_0] at c1
  have hlt := lt_of_row h.row
  have hk : WAt b v X 0 (w.alloc (.cells #[.int .i64 0] 229)) := h.keep (Only.alloc (fun _ => False) w _) (fun q => q) (fun _ _ q => q)
  have HX := hide hk.text
  clear h hk
  go_enter Tryz.func151, Tryz.ntmps151
  go_wp2_with fail
  refine (as_nil _ _).mono ?_
  rintro e w1 ⟨rfl, rfl⟩
  go_wp2_with (refine wpList_conv rfl 105 9 (.tmp 16) rfl _ _ (by rfl) (unhide HX) ?_)
  go_ret2
  exact ⟨rfl, (Below.refl _ _).alloc (Nat.le_refl _) _⟩
end Go.Proofs.YtpidmpefodnffaaGreatDoor
namespace Go.Proofs.YtpidmpefodnffaaGreatDoor
open Go.RowKit
set_option maxHeartbeats 4000000
set_option maxRecDepth 8000
/-- A Writer that came behind w0, and has laid X without a fault. -/
def Wt (w0 : World) (b : Nat) (X : Bs) (w : World) : Prop := ∃ v, WAt b v X 0 w ∧ Below w0.heap.size w0 w ∧ w0.heap.size ≤ b ∧ ∀ k, v.ownBlock = some k → w0.heap.size ≤ k
theorem Wt.to {w0 w w' : World} {b : Nat} {Y : Bs} {v : Value} (hB : Below w0.heap.size w0 w) (hb : w0.heap.size ≤ b) (hv : ∀ k, v.ownBlock = some k → w0.heap.size ≤ k) (h : WTo b v Y 0 w w') : Wt w0 b Y w' := by
  obtain ⟨v', h1, h2, h3⟩ := h
  refine ⟨v', h1, h2.below hB hB.size (fun k hk => ?_), hb, fun k hk => ?_⟩
  · rcases hk with rfl | hk
    · exact hb
    · exact hv k hk
  · rcases h3 k hk with q | q
    · exact hv k q
    · exact Nat.le_trans hB.size q
theorem Wt.new (w0 : World) : Calls Tryz.prog 150 #[] w0 fun e w' => e = .returned (ptr w0.heap.size) ∧ Wt w0 w0.heap.size [] w' := by
  refine (newwriter_any w0).mono ?_
  rintro e w' ⟨rfl, h1, h2⟩
  exact ⟨rfl, _, h1, h2, Nat.le_refl _, fun k hk => by cases hk⟩
theorem Wt.done {w0 w : World} {b : Nat} {X : Bs} (h : Wt w0 b X w) :
    Calls Tryz.prog 151 #[ptr b] w fun e w' => e = .returned (.tuple #[S X, I 0]) ∧ Below w0.heap.size w0 w' := by
  obtain ⟨v, h1, h2, h3, h4⟩ := h
  refine (wdone_ok b v X w h1).mono ?_
  rintro e w' ⟨rfl, hw⟩
  exact ⟨rfl, h2.trans (hw.mono h2.size)⟩
theorem Wt.below {w0 w : World} {b : Nat} {X : Bs} (h : Wt w0 b X w) : Below w0.heap.size w0 w := by
  obtain ⟨v, h1, h2, h3, h4⟩ := h
  exact h2
/-- What was laid is kept by whatever leaves the old blocks. -/
theorem Wt.keep {w0 w w' : World} {b : Nat} {X : Bs} (h : Wt w0 b X w) (k : Below w.heap.size w w') : Wt w0 b X w' := by
  obtain ⟨v, h1, h2, h3, h4⟩ := h
  exact ⟨v, h1.keep (Only.of_below (P := fun _ => False) k) (fun q => q) (fun _ _ q => q), h2.trans (k.mono h2.size), h3, h4⟩
end Go.Proofs.YtpidmpefodnffaaGreatDoor
namespace Go.Proofs.YtpidmpefodnffaaGreatDoor
open Go.RowKit
set_option maxHeartbeats 4000000
set_option maxRecDepth 8000
theorem Wt.text {w0 w : World} {b : Nat} {X : Bs} (h : Wt w0 b X w) (most : Nat) (s : Bs) (hm : most ≤ 255) (hs : s.length ≤ most) (hX : X.length ≤ 1000000000) :
    Calls Tryz.prog 137 #[ptr b, I most, S s] w fun e w' => e = .returned (.tuple #[]) ∧ Wt w0 b (X ++ (be 1 s.length ++ s)) w' := by
  obtain ⟨v, h1, h2, h3, h4⟩ := h
  refine (wtext_any b v X 0 most s w h1 (by omega)).mono ?_
  rintro e w' ⟨rfl, hw⟩
  have e1 : textE most s.length = 0 := by
    unfold textE
    rw [if_pos ⟨by omega, by omega⟩, if_pos (by omega)]
  have e2 : textY most s = be 1 s.length ++ s := by
    unfold textY ahd
    rw [if_pos (by omega)]
  rw [e1, e2, wPut_ok] at hw
  exact ⟨rfl, Wt.to h2 h3 h4 hw⟩
end Go.Proofs.YtpidmpefodnffaaGreatDoor
namespace Go.Proofs.YtpidmpefodnffaaGreatDoor
open Go.RowKit Go.Lib
/-- Bytes that lie in memory from a place on. -/
structure Bys (g off cap : Nat) (R : List UInt8) (w : World) : Prop where
  cell : ∀ j, j < R.length → w.cell? ⟨g, off + j, none⟩ = some (.int .u8 ((R.getD j 0).toNat : Int))
  cap : R.length ≤ cap
  lt : g < w.heap.size
theorem Bys.keep {g off cap : Nat} {R : List UInt8} {w w' : World} {P : Nat → Prop} (h : Bys g off cap R w) (ho : Only P w w') (hg : ¬ P g) : Bys g off cap R w' :=
  ⟨fun j hj => (World.cell?_of_block (ho.block g h.lt hg)).trans (h.cell j hj), h.cap, Nat.lt_of_lt_of_le h.lt ho.size⟩
theorem Bys.text {g off cap : Nat} {R : List UInt8} {w : World} (h : Bys g off cap R w) (n : Nat) (hn : n ≤ R.length) (c : Nat) : (convert 105 9 (.slice (some ⟨g, off, none⟩) n c)).run Tryz.prog w = .ok (.string ⟨(R.take n).toArray⟩) w :=
  run_text w g off n c (R.take n) (by rw [List.length_take]; omega) (fun j hj => by
    rw [h.cell j (by omega)]
    simp [show j < n from hj])
/-- A Reader: what is left, what was wrong. -/
structure RAt (b g off cap : Nat) (R : List UInt8) (E : Nat) (w : World) : Prop where
  row : w.heap[b]? = some (.cells #[.slice (some ⟨g, off, none⟩) R.length cap, errV E] 227 (0, 0))
  bys : Bys g off cap R w
  ne : g ≠ b
theorem RAt.keep {b g off cap : Nat} {R : List UInt8} {E : Nat} {w w' : World} {P : Nat → Prop} (h : RAt b g off cap R E w) (ho : Only P w w') (hb : ¬ P b) (hg : ¬ P g) : RAt b g off cap R E w' :=
  ⟨(ho.block b (lt_of_row h.row) hb).trans h.row, h.bys.keep ho hg, h.ne⟩
theorem RAt.c0 {b g off cap : Nat} {R : List UInt8} {E : Nat} {w : World} (h : RAt b g off cap R E w) : w.cell? ⟨b, 0, none⟩ = some (.slice (some ⟨g, off, none⟩) R.length cap) := by
  rw [cell_of_row w b 0 _ 227 (0, 0) h.row]; rfl
theorem RAt.c1 {b g off cap : Nat} {R : List UInt8} {E : Nat} {w : World} (h : RAt b g off cap R E w) : w.cell? ⟨b, 1, none⟩ = some (errV E) := by
  rw [cell_of_row w b 1 _ 227 (0, 0) h.row]; rfl
theorem RAt.fz {b g off cap : Nat} {R : List UInt8} {E : Nat} {w : World} (h : RAt b g off cap R E w) (j : Nat) : w.frozen? ⟨b, j, none⟩ = false := frozen_of_row w b j _ 227 h.row
theorem RAt.set1 {b g off cap : Nat} {R : List UInt8} {E E' : Nat} {w : World} (h : RAt b g off cap R E w) : RAt b g off cap R E' (w.setCell ⟨b, 1, none⟩ (errV E')) := by
  have hr := heap_setCell_same w b 1 _ 227 (errV E') h.row
  refine ⟨by simpa using hr, h.bys.keep (Only.setCell w ⟨b, 1, none⟩ _) h.ne, h.ne⟩
theorem RAt.set0 {b g off cap off' cap' : Nat} {R R' : List UInt8} {E : Nat} {w : World} (h : RAt b g off cap R E w) (hb : Bys g off' cap' R' w) : RAt b g off' cap' R' E (w.setCell ⟨b, 0, none⟩ (.slice (some ⟨g, off', none⟩) R'.length cap')) := by
  have hr := heap_setCell_same w b 0 _ 227 (.slice (some ⟨g, off', none⟩) R'.length cap') h.row
  refine ⟨by simpa using hr, hb.keep (Only.setCell w ⟨b, 0, none⟩ _) h.ne, h.ne⟩
/-- What a Reader becomes. -/
def RTo (b g : Nat) (R' : List UInt8) (E' : Nat) (w w' : World) : Prop := (∃ off cap, RAt b g off cap R' E' w') ∧ Only (fun k => k = b) w w'
theorem RTo.same {b g off cap : Nat} {R : List UInt8} {E : Nat} {w : World} (h : RAt b g off cap R E w) : RTo b g R E w w := ⟨⟨off, cap, h⟩, Only.refl _ _⟩
theorem RTo.err {b g off cap : Nat} {R : List UInt8} {E E' : Nat} {w : World} (h : RAt b g off cap R E w) : RTo b g R E' w (w.setCell ⟨b, 1, none⟩ (errV E')) := ⟨⟨off, cap, h.set1⟩, Only.setCell w ⟨b, 1, none⟩ (errV E')⟩
theorem RTo.step {b g : Nat} {R2 : List UInt8} {E2 : Nat} {w w1 w2 : World} (h1 : Only (fun k => k = b) w w1) (h2 : RTo b g R2 E2 w1 w2) : RTo b g R2 E2 w w2 :=
  ⟨h2.1, h1.trans h2.2 (fun _ _ q => q)⟩
theorem take_drop_bys {g off cap : Nat} {R : List UInt8} {w : World} (h : Bys g off cap R w) (n : Nat) (hn : n ≤ R.length) : Bys g off cap (R.take n) w :=
  ⟨fun j hj => by
    rw [List.length_take] at hj
    rw [h.cell j (by omega)]
    simp [show j < n by omega], by rw [List.length_take]; have := h.cap; omega, h.lt⟩
theorem drop_bys {g off cap : Nat} {R : List UInt8} {w : World} (h : Bys g off cap R w) (n : Nat) (hn : n ≤ R.length) : Bys g (off + n) (cap - n) (R.drop n) w :=
  ⟨fun j hj => by
    rw [List.length_drop] at hj
    rw [Nat.add_assoc, h.cell (n + j) (by omega)]
    simp, by rw [List.length_drop]; have := h.cap; omega, h.lt⟩
/-- The bytes of a text in new memory. -/
theorem wpList_bytes {ops : Array Oper} {rest : List Oper} {o : Oper} {a : Act} {w : World} {Q : Exit → Act → World → Prop} (hgd : o.guard = none) (x : Operand) (ho : o.op = .convert 9 105 x)
    (s : List UInt8) (hx : a.eval x = .string ⟨s.toArray⟩)
    (h : ∀ w' cap, Bys w.heap.size 0 cap s w' → Below w.heap.size w w' → wpList Tryz.prog ops Q rest (a.put o.dst (.slice (some ⟨w.heap.size, 0, none⟩) s.length cap)) w') : wpList Tryz.prog ops Q (o :: rest) a w := by
  refine wpList_plain hgd fun K hK => ?_
  have hrun := run_bytes_of_string (P := Tryz.prog) w 9 105 5 ⟨s.toArray⟩ Tryz.underlying9 Tryz.underlying105 Tryz.underlying5
  have hsz : (ByteArray.mk s.toArray).size = s.length := by simp [ByteArray.size]
  unfold Oper.wp execOp
  simp only [ho, hx, Sem.run_bind, hrun, Result.andThen_ok]
  rw [hsz]
  refine hK _ _ (h _ _ ⟨?_, ?_, ?_⟩ ?_)
  · intro j hj
    rw [Nat.zero_add]
    have e := World.cell?_alloc_mark w.drew (bytesRow ⟨s.toArray⟩ (grownCap w s.length 0 5)) 5 ((bytesRow ⟨s.toArray⟩ (grownCap w s.length 0 5)).size, (bytesRow ⟨s.toArray⟩ (grownCap w s.length 0 5)).size + 1) j
    refine e.trans ?_
    rw [bytesRow_at _ _ _ (by simpa using hj)]
    simp [hj]
  · exact grownCap_ge w s.length 0 5
  · simp
  · exact ((Below.refl _ _).drew).alloc (Nat.le_refl _) _
set_option maxHeartbeats 1000000 in
theorem newreader_any (s : List UInt8) (w : World) :
    Calls Tryz.prog 152 #[.string ⟨s.toArray⟩] w fun e w' => ∃ b g cap, e = .returned (.pointer (some ⟨b, 0, none⟩)) ∧ w.heap.size ≤ b ∧ w.heap.size ≤ g ∧ RAt b g 0 cap s 0 w' ∧ Below w.heap.size w w' := by
  go_enter Tryz.func152, Tryz.ntmps152
  go_wp2_with (refine wpList_bytes rfl (.tmp 3) rfl s (by rfl) ?_; intro w1 cap1 hb1 hbe1)
  go_ret
  refine ⟨w1.heap.size, w.heap.size, cap1, rfl, hbe1.size, Nat.le_refl _, ⟨?_, ?_, ?_⟩, hbe1.alloc hbe1.size _⟩
  · exact heap_alloc_new _ _
  · exact hb1.keep (Only.alloc (fun _ => False) w1 _) (fun q => q)
  · have := hb1.lt; omega
set_option maxHeartbeats 1000000 in
theorem take_any (b g off cap : Nat) (R : List UInt8) (E n : Nat) (w : World) (h : RAt b g off cap R E w) (hn : n ≤ R.length) (_hR : R.length ≤ 9223372036854775807) :
    Calls Tryz.prog 158 #[.pointer (some ⟨b, 0, none⟩), .int .i64 n] w fun e w' => e = .returned (.slice (some ⟨g, off, none⟩) n cap) ∧ RTo b g (R.drop n) E w w' := by
  have c0 := h.c0
  have f0 := h.fz 0
  have hcap := h.bys.cap
  by_cases hc : cap = n
  · subst hc
    have hRn : R.length = cap := by omega
    have hnil : R.drop cap = [] := List.drop_of_length_le (by omega)
    have hb0 : Bys g off 0 (R.drop cap) w := ⟨fun j hj => by rw [hnil] at hj; simp at hj, by rw [hnil]; simp, h.bys.lt⟩
    have hto := h.set0 hb0
    rw [hnil] at hto ⊢
    have HT := hide hto
    have hRR : R.length - cap = 0 := by omega
    clear h hnil hb0 hto
    go_enter Tryz.func158, Tryz.ntmps158
    go_wp2
    go_ret
    refine ⟨rfl, ⟨off, 0, ?_⟩, Only.setCell w ⟨b, 0, none⟩ _⟩
    simpa using unhide HT
  · have hto := h.set0 (drop_bys h.bys n hn)
    rw [List.length_drop] at hto
    have HT := hide hto
    clear h hto
    go_enter Tryz.func158, Tryz.ntmps158
    go_wp2
    go_ret
    exact ⟨rfl, ⟨off + n, cap - n, unhide HT⟩, Only.setCell w ⟨b, 0, none⟩ _⟩
/-- A number that stands by bytes, the highest first. -/
def nat (l : List UInt8) : Nat := l.foldl (fun n c => n * 256 + c.toNat) 0
theorem nat_snoc (l : List UInt8) (c : UInt8) : nat (l ++ [c]) = nat l * 256 + c.toNat := by simp [nat]
theorem nat_lt (l : List UInt8) : nat l < 256 ^ l.length := by
  suffices ∀ l : List UInt8, ∀ n k : Nat, n < 256 ^ k → l.foldl (fun n c => n * 256 + c.toNat) n < 256 ^ (k + l.length) by
    have := this l 0 0 (by simp)
    simpa [nat] using this
  intro l
  induction l with
  | nil => intro n k h; simpa using h
  | cons c l ih =>
    intro n k h
    have hc := c.toNat_lt
    have := ih (n * 256 + c.toNat) (k + 1) (by rw [Nat.pow_succ]; omega)
    rw [List.foldl_cons, List.length_cons]
    rw [show k + (l.length + 1) = k + 1 + l.length by omega]
    exact this
theorem nat_take (l : List UInt8) (k : Nat) (hk : k < l.length) (hb : nat l < 9223372036854775808) : nat (l.take k) < 36028797018963968 ∧ nat (l.take (k + 1)) < 9223372036854775808 := by
  have mono : ∀ m : List UInt8, ∀ n, n * 256 ^ m.length ≤ m.foldl (fun n c => n * 256 + c.toNat) n := by
    intro m
    induction m with
    | nil => intro n; simp
    | cons c m ih =>
      intro n
      have := ih (n * 256 + c.toNat)
      rw [List.foldl_cons, List.length_cons, Nat.pow_succ]
      refine Nat.le_trans ?_ this
      rw [Nat.mul_comm (256 ^ m.length) 256, ← Nat.mul_assoc]
      exact Nat.mul_le_mul_right _ (by omega)
  have hsplit : ∀ j, nat (l.take j) * 256 ^ (l.drop j).length ≤ nat l := by
    intro j
    have := mono (l.drop j) (nat (l.take j))
    refine Nat.le_trans this ?_
    unfold nat
    rw [← List.foldl_append, List.take_append_drop]
    exact Nat.le_refl _
  constructor
  · have h1 := hsplit k
    have h2 : 256 ≤ 256 ^ (l.drop k).length := by
      rw [List.length_drop]
      calc 256 = 256 ^ 1 := rfl
        _ ≤ 256 ^ (l.length - k) := Nat.pow_le_pow_right (by omega) (by omega)
    have h3 : nat (l.take k) * 256 ≤ nat (l.take k) * 256 ^ (l.drop k).length := Nat.mul_le_mul_left _ h2
    omega
  · have h1 := hsplit (k + 1)
    have h2 : 1 ≤ 256 ^ (l.drop (k + 1)).length := Nat.one_le_pow _ _ (by omega)
    have h3 : nat (l.take (k + 1)) * 1 ≤ nat (l.take (k + 1)) * 256 ^ (l.drop (k + 1)).length := Nat.mul_le_mul_left _ h2
    omega
theorem or8n (n : Nat) (c : UInt8) (h : n < 36028797018963968) : bits .or .i64 ((n : Int) * 256) (c.toNat : Int) = ((n * 256 + c.toNat : Nat) : Int) := by
  have hc := c.toNat_lt
  exact or_add 8 n c.toNat (by omega) (by omega)
set_option maxHeartbeats 1000000 in
set_option maxRecDepth 8000 in
theorem number_any (g off cap n : Nat) (l : List UInt8) (w : World) (h : Bys g off cap l w) (hl : l.length = n) (hn : n ≤ 8) (hb : nat l < 9223372036854775808) :
    Calls Tryz.prog 162 #[.slice (some ⟨g, off, none⟩) n cap] w fun e w' => e = .returned (.int .i64 (nat l)) ∧ w' = w := by
  have hcell := h.cell
  have hc := h.cap
  have HC := hide hcell
  clear h hcell
  go_enter Tryz.func162, Tryz.ntmps162
  go_wp2
  go_loop [3, 8] (fun r i => ∃ k : Nat, k ≤ n ∧ i = .int .i64 k ∧ r = .int .i64 (nat (l.take k))) (fun _ i => n - (intOf i).toNat)
  case atStart => exact ⟨0, by omega, rfl, rfl⟩
  case round =>
    obtain ⟨k, hk, rfl, rfl⟩ := hrel
    by_cases hlt : k < n
    · have hbd := nat_take l k (by omega) hb
      have hnx := hide (show nat (l.take (k + 1)) = nat (l.take k) * 256 + (l.getD k 0).toNat by
        rw [take_snoc l k (by omega), nat_snoc]
        simp [show k < l.length by omega])
      have hcl := unhide HC k (by omega)
      generalize nat (l.take k) = N at *
      generalize l.getD k 0 = c at *
      have hor := or8n N c hbd.1
      have hcl2 := c.toNat_lt
      have hwc := wrap_c c
      obtain ⟨M, hM⟩ : ∃ M, N * 256 + c.toNat = M := ⟨_, rfl⟩
      rw [hM] at hor
      have HM : Hid (nat (l.take (k + 1)) = M) := hide (by rw [unhide hnx, hM])
      have hN := hbd.1
      clear hbd hnx hM hcl2
      go_wp2
      go_round
      case rel => exact ⟨k + 1, by omega, by go_num, by rw [unhide HM]⟩
      case measure => simp [intOf]; omega
    · have hkl : l.take k = l := List.take_of_length_le (by omega)
      rw [hkl]
      have hd : decide (k < n) = false := by simp; omega
      go_wp2
      go_ret
      exact ⟨rfl, rfl⟩
end Go.Proofs.YtpidmpefodnffaaGreatDoor
namespace Go.Proofs.YtpidmpefodnffaaGreatDoor
open Go.RowKit Go.Lib
/-- What is wrong with Num of a Reader, with Text, with Raw. -/
def rNumE (size : Int) (R : List UInt8) : Nat := if 1 ≤ size ∧ size ≤ 8 then (if (R.length : Int) < size then 22 else if size = 8 ∧ 128 ≤ (R.getD 0 0).toNat then 20 else 0) else 1
def rTextE (most : Int) (R : List UInt8) : Nat := if 0 ≤ most ∧ most ≤ 65535 then (if R.length < ahd most then 22 else if most < (nat (R.take (ahd most)) : Int) then 21 else if R.length - ahd most < nat (R.take (ahd most)) then 22 else 0) else 1
def rRawE (n : Int) (R : List UInt8) : Nat := if n < 0 then 1 else if (R.length : Int) < n then 22 else 0
/-- A Reader behind a call that takes k bytes. -/
def rGo (R : List UInt8) (E e k : Nat) : List UInt8 × Nat := if E ≠ 0 then (R, E) else if e ≠ 0 then (R, e) else (R.drop k, 0)
theorem rGo_old {R : List UInt8} {E e k : Nat} (h : E ≠ 0) : rGo R E e k = (R, E) := by simp [rGo, h]
theorem rGo_bad {R : List UInt8} {e k : Nat} (h : e ≠ 0) : rGo R 0 e k = (R, e) := by simp [rGo, h]
theorem rGo_ok {R : List UInt8} {k : Nat} : rGo R 0 0 k = (R.drop k, 0) := by simp [rGo]
/-- Is nothing wrong? -/
def fine (E e : Nat) : Bool := E == 0 && e == 0
theorem fine_old {E e : Nat} (h : E ≠ 0) : fine E e = false := by simp [fine, h]
theorem fine_bad {e : Nat} (h : e ≠ 0) : fine 0 e = false := by simp [fine, h]
theorem fine_ok : fine 0 0 = true := rfl
set_option maxHeartbeats 1000000 in
set_option maxRecDepth 8000 in
theorem rraw_any (b g off cap : Nat) (R : List UInt8) (E : Nat) (n : Int) (w : World) (h : RAt b g off cap R E w) (hR : R.length ≤ 9223372036854775807) :
    Calls Tryz.prog 133 #[.pointer (some ⟨b, 0, none⟩), .int .i64 n] w fun e w' => e = .returned (.string ⟨(if fine E (rRawE n R) then R.take n.toNat else []).toArray⟩) ∧ RTo b g (rGo R E (rRawE n R) n.toNat).1 (rGo R E (rRawE n R) n.toNat).2 w w' := by
  have c0 := h.c0
  have c1 := h.c1
  have f1 := h.fz 1
  by_cases hE : E = 0
  · subst hE
    rw [errV_0] at c1
    by_cases hn : n < 0
    · have he : rRawE n R = 1 := by simp [rRawE, hn]
      rw [he, rGo_bad (by decide), fine_bad (by decide)]
      have H := hide h
      clear h he
      go_enter Tryz.func133, Tryz.ntmps133
      go_wp2
      go_ret
      exact ⟨rfl, RTo.err (E' := 1) (unhide H)⟩
    · obtain ⟨k, hk⟩ : ∃ k : Nat, n = (k : Int) := ⟨n.toNat, by omega⟩
      subst hk
      by_cases hl : R.length < k
      · have he : rRawE k R = 22 := by unfold rRawE; rw [if_neg (by omega), if_pos (by omega)]
        rw [he, rGo_bad (by decide), fine_bad (by decide)]
        have H := hide h
        clear h he
        go_enter Tryz.func133, Tryz.ntmps133
        go_wp2
        go_ret
        exact ⟨rfl, RTo.err (E' := 22) (unhide H)⟩
      · have he : rRawE k R = 0 := by unfold rRawE; rw [if_neg (by omega), if_neg (by omega)]
        rw [he, rGo_ok, fine_ok]
        have H := hide h
        have hlk : k ≤ R.length := by omega
        clear h he hl
        go_enter Tryz.func133, Tryz.ntmps133
        go_wp2_with fail
        refine (take_any b g off cap R 0 k w (unhide H) hlk hR).mono ?_
        rintro e w1 ⟨rfl, hto⟩
        have hx := ((unhide H).bys.keep hto.2 (unhide H).ne).text k hlk cap
        have HX := hide hx
        clear hx
        go_wp2_with (refine wpList_conv rfl 105 9 (.tmp 7) rfl _ _ (by rfl) (unhide HX) ?_)
        go_ret
        exact ⟨rfl, hto⟩
  · rw [rGo_old hE, fine_old hE]
    rw [errV_ne hE] at c1
    have H := hide h
    clear h
    go_enter Tryz.func133, Tryz.ntmps133
    go_wp2
    go_ret
    exact ⟨rfl, RTo.same (unhide H)⟩
theorem getD_take (R : List UInt8) (k : Nat) (hk : 0 < k) : (R.take k).getD 0 0 = R.getD 0 0 := by
  cases R with
  | nil => simp
  | cons c R => cases k with
    | zero => omega
    | succ k => simp
theorem nat_first (l : List UInt8) (h : l.length = 8) : nat l < 9223372036854775808 ↔ (l.getD 0 0).toNat < 128 := by
  match l, h with
  | [a, b, c, d, e, f, g, i], _ =>
    have h1 := a.toNat_lt
    have h2 := b.toNat_lt
    have h3 := c.toNat_lt
    have h4 := d.toNat_lt
    have h5 := e.toNat_lt
    have h6 := f.toNat_lt
    have h7 := g.toNat_lt
    have h8 := i.toNat_lt
    simp only [nat, List.foldl_cons, List.foldl_nil, List.getD_cons_zero]
    omega
theorem nat_small (l : List UInt8) (k : Nat) (hk : k ≤ 7) (h : l.length = k) : nat l < 9223372036854775808 := by
  have := nat_lt l
  have h2 : 256 ^ l.length ≤ 256 ^ 7 := Nat.pow_le_pow_right (by omega) (by omega)
  have h3 : 256 ^ 7 = 72057594037927936 := by decide
  omega
set_option maxHeartbeats 1000000 in
set_option maxRecDepth 8000 in
theorem rnum_any (b g off cap : Nat) (R : List UInt8) (E : Nat) (size : Int) (w : World) (h : RAt b g off cap R E w) (hR : R.length ≤ 9223372036854775807) :
    Calls Tryz.prog 136 #[.pointer (some ⟨b, 0, none⟩), .int .i64 size] w fun e w' => e = .returned (.int .i64 (if fine E (rNumE size R) then (nat (R.take size.toNat) : Int) else 0)) ∧ RTo b g (rGo R E (rNumE size R) size.toNat).1 (rGo R E (rNumE size R) size.toNat).2 w w' := by
  have c0 := h.c0
  have c1 := h.c1
  have f1 := h.fz 1
  by_cases hE : E = 0
  · subst hE
    rw [errV_0] at c1
    by_cases hs : 1 ≤ size ∧ size ≤ 8
    · obtain ⟨k, hk⟩ : ∃ k : Nat, size = (k : Int) := ⟨size.toNat, by omega⟩
      subst hk
      have hk1 : 1 ≤ k := by omega
      have hk8 : k ≤ 8 := by omega
      have hsd : decide (1 ≤ (k : Int) ∧ (k : Int) ≤ 8) = true := by simpa using hs
      by_cases hl : R.length < k
      · have he : rNumE k R = 22 := by unfold rNumE; rw [if_pos hs, if_pos (by omega)]
        rw [he, rGo_bad (by decide), fine_bad (by decide)]
        have H := hide h
        clear h he hs
        go_enter Tryz.func136, Tryz.ntmps136
        go_wp2_with fail
        refine (sized_any (k : Int) w).mono ?_
        rintro e w' ⟨rfl, rfl⟩
        rw [hsd]
        go_wp2
        go_ret
        exact ⟨rfl, RTo.err (E' := 22) (unhide H)⟩
      · have hlk : k ≤ R.length := by omega
        by_cases h8 : k = 8
        · have hcl := h.bys.cell 0 (by omega)
          rw [Nat.add_zero] at hcl
          have hcl2 := (R.getD 0 0).toNat_lt
          by_cases h128 : 128 ≤ (R.getD 0 0).toNat
          · have he : rNumE k R = 20 := by unfold rNumE; rw [if_pos hs, if_neg (by omega), if_pos ⟨by omega, h128⟩]
            rw [he, rGo_bad (by decide), fine_bad (by decide)]
            have H := hide h
            generalize R.getD 0 0 = c at *
            subst h8
            clear h he hs hl
            go_enter Tryz.func136, Tryz.ntmps136
            go_wp2_with fail
            refine (sized_any ((8 : Nat) : Int) w).mono ?_
            rintro e w' ⟨rfl, rfl⟩
            rw [hsd]
            go_wp2
            go_ret
            exact ⟨rfl, RTo.err (E' := 20) (unhide H)⟩
          · have he : rNumE k R = 0 := by unfold rNumE; rw [if_pos hs, if_neg (by omega), if_neg (by omega)]
            have hnat : nat (R.take k) < 9223372036854775808 := by
              rw [nat_first _ (by rw [List.length_take]; omega), getD_take R k (by omega)]; omega
            rw [he, rGo_ok, fine_ok]
            have H := hide h
            generalize R.getD 0 0 = c at *
            subst h8
            clear h he hs hl
            go_enter Tryz.func136, Tryz.ntmps136
            go_wp2_with fail
            refine (sized_any ((8 : Nat) : Int) w).mono ?_
            rintro e w' ⟨rfl, rfl⟩
            rw [hsd]
            go_wp2_with fail
            refine (take_any b g off cap R 0 8 w' (unhide H) hlk hR).mono ?_
            rintro e w1 ⟨rfl, hto⟩
            have hby := take_drop_bys ((unhide H).bys.keep hto.2 (unhide H).ne) 8 hlk
            go_wp2_with fail
            refine (number_any g off cap 8 (R.take 8) w1 hby (by rw [List.length_take]; omega) (by omega) hnat).mono ?_
            rintro e w2 ⟨rfl, rfl⟩
            go_wp2
            go_ret
            exact ⟨rfl, hto⟩
        · have he : rNumE k R = 0 := by unfold rNumE; rw [if_pos hs, if_neg (by omega), if_neg (by omega)]
          have hnat : nat (R.take k) < 9223372036854775808 := nat_small _ k (by omega) (by rw [List.length_take]; omega)
          rw [he, rGo_ok, fine_ok]
          have hne : ((k : Int) == 8) = false := by simp; omega
          have H := hide h
          clear h he hs hl
          go_enter Tryz.func136, Tryz.ntmps136
          go_wp2_with fail
          refine (sized_any (k : Int) w).mono ?_
          rintro e w' ⟨rfl, rfl⟩
          rw [hsd]
          go_wp2_with fail
          refine (take_any b g off cap R 0 k w' (unhide H) hlk hR).mono ?_
          rintro e w1 ⟨rfl, hto⟩
          have hby := take_drop_bys ((unhide H).bys.keep hto.2 (unhide H).ne) k hlk
          go_wp2_with fail
          refine (number_any g off cap k (R.take k) w1 hby (by rw [List.length_take]; omega) (by omega) hnat).mono ?_
          rintro e w2 ⟨rfl, rfl⟩
          go_wp2
          go_ret
          exact ⟨rfl, hto⟩
    · have he : rNumE size R = 1 := by simp [rNumE, hs]
      have hsd : decide (1 ≤ size ∧ size ≤ 8) = false := by simpa using hs
      rw [he, rGo_bad (by decide), fine_bad (by decide)]
      have H := hide h
      clear hs he h
      go_enter Tryz.func136, Tryz.ntmps136
      go_wp2_with fail
      refine (sized_any size w).mono ?_
      rintro e w' ⟨rfl, rfl⟩
      rw [hsd]
      go_wp2
      go_ret
      exact ⟨rfl, RTo.err (E' := 1) (unhide H)⟩
  · rw [rGo_old hE, fine_old hE]
    rw [errV_ne hE] at c1
    have H := hide h
    clear h
    go_enter Tryz.func136, Tryz.ntmps136
    go_wp2
    go_ret
    exact ⟨rfl, RTo.same (unhide H)⟩
end Go.Proofs.YtpidmpefodnffaaGreatDoor
/- C8, of lists alone: what was laid down is read as it was. -/
namespace Go.Proofs.YtpidmpefodnffaaGreatDoor
theorem nat_app (a b : List UInt8) : nat (a ++ b) = nat a * 256 ^ b.length + nat b := by
  have gen : ∀ (b : List UInt8) (n : Nat), b.foldl (fun n c => n * 256 + c.toNat) n = n * 256 ^ b.length + nat b := by
    intro b
    induction b with
    | nil => intro n; simp [nat]
    | cons c b ih =>
      intro n
      have h1 := ih (n * 256 + c.toNat)
      have h2 := ih c.toNat
      have e : nat (c :: b) = b.foldl (fun n c => n * 256 + c.toNat) c.toNat := by simp [nat]
      rw [List.foldl_cons, h1, e, h2, List.length_cons, Nat.pow_succ, Nat.add_mul, Nat.mul_assoc, Nat.mul_comm 256, ← Nat.add_assoc]
  unfold nat
  rw [List.foldl_append]
  exact gen b _
theorem be_succ (size n : Nat) : be (size + 1) n = be size (n / 256) ++ [UInt8.ofNat n] := by
  unfold be
  rw [List.range_succ, List.map_append]
  congr 1
  · apply List.map_congr_left
    intro i hi
    have hi' : i < size := List.mem_range.1 hi
    congr 1
    rw [show size + 1 - 1 - i = (size - 1 - i) + 1 by omega, Nat.pow_succ, Nat.mul_comm, ← Nat.div_div_eq_div_mul]
  · simp
theorem nat_be (size n : Nat) : nat (be size n) = n % 256 ^ size := by
  induction size generalizing n with
  | zero => simp [be, nat, Nat.mod_one]
  | succ size ih =>
    rw [be_succ, nat_app, ih]
    have e : nat [UInt8.ofNat n] = n % 256 := by simp [nat]
    rw [e]
    simp only [List.length_singleton, Nat.pow_one]
    rw [Nat.pow_succ, Nat.mul_comm (256 ^ size) 256, Nat.mod_mul]
    omega
end Go.Proofs.YtpidmpefodnffaaGreatDoor
namespace Go.Proofs.YtpidmpefodnffaaGreatDoor
open Go.RowKit Go.Lib
/-- A block of values of one cell each. -/
def Rb (e : TypeId) (g : Nat) (xs : List Value) (w : World) : Prop := w.heap[g]? = some (.cells xs.toArray e (0, 0))
variable {e : TypeId} {g : Nat} {xs : List Value} {w w' : World}
theorem Rb.cell (h : Rb e g xs w) (k : Nat) : w.cell? ⟨g, k, none⟩ = xs[k]? := by
  rw [cell_of_row w g k _ e (0, 0) h]; simp
theorem Rb.fz (h : Rb e g xs w) (j : Nat) : w.frozen? ⟨g, j, none⟩ = false := frozen_of_row w g j _ e h
theorem Rb.set (h : Rb e g xs w) (k : Nat) (v : Value) : Rb e g (xs.set k v) (w.setCell ⟨g, k, none⟩ v) := by
  have hr := heap_setCell_same w g k _ e v h
  unfold Rb
  simpa using hr
theorem made1 (z : Value) (hz : z.cells = #[z]) (m : Nat) : (madeCells z.cells m).toList = List.replicate m z := by
  rw [hz]
  unfold madeCells
  apply List.ext_getElem
  · simp
  · intro i h1 h2
    simp [Nat.mod_one]
/-- make([]T, n), each of one cell. -/
theorem make1 {t : TypeId} {K : IntKind} (hinfo : (Tryz.prog.info? e).map (fun i => (i.zero, i.size, decide (i.bytes ≤ 8))) = some (some (.int K 0), 1, true)) (hu : Tryz.prog.underlying t = some (.slice e)) {ops : Array Oper} {rest : List Oper} {o : Oper} {a : Act} {Q : Exit → Act → World → Prop} (hgd : o.guard = none) (l c : Operand) (hop : o.op = Op.makeSlice t l c)
    (L C : Int) (n : Nat) (hl : a.eval l = .int .i64 L) (hc : a.eval c = .int .i64 C) (hL : L = (n : Int)) (hC : C = (n : Int)) (hn : n ≤ 1000000000000)
    (h : ∀ w', Rb e w.heap.size (List.replicate n (.int K 0)) w' → Below w.heap.size w w' → wpList Tryz.prog ops Q rest (a.put o.dst (.slice (some ⟨w.heap.size, 0, none⟩) n n)) w') : wpList Tryz.prog ops Q (o :: rest) a w := by
  obtain ⟨i0, hi, hz0, hz1, hz2⟩ : ∃ i, Tryz.prog.info? e = some i ∧ i.zero = some (.int K 0) ∧ i.size = 1 ∧ i.bytes ≤ 8 := by
    cases q : Tryz.prog.info? e with
    | none => rw [q] at hinfo; simp at hinfo
    | some i => rw [q] at hinfo; simp at hinfo; exact ⟨i, rfl, hinfo.1, hinfo.2.1, hinfo.2.2⟩
  refine wpList_make_full w hgd l c t hop w.heap.size e i0 _ 1 hu hi hz0 hz1 .i64 .i64 L C n hl hc hL hC ?_ (by unfold maxLen; omega) (Nat.le_refl _) ?_
  · have := Nat.mul_le_mul hz2 hn
    omega
  intro w' ho hg
  refine h w' ?_ ((Below.refl _ _).grown hg (Nat.le_refl _) (fun k e => by cases e))
  rcases ho.2 with ⟨e, _⟩ | ⟨g, cap, cur, e, _, hgg, _, _, hsz, htk⟩
  · cases e
  · simp only [Value.slice.injEq, Option.some.injEq, Addr.mk.injEq, and_true] at e
    obtain ⟨rfl, rfl⟩ : w.heap.size = g ∧ n = cap := ⟨e.1, e.2.2⟩
    unfold Rb
    rw [hgg]
    have h1 : cur.toList = List.replicate n (.int K 0) := by
      have h2 : cur.toList.take (n * 1) = cur.toList := List.take_of_length_le (by simp; omega)
      rw [← h2, htk, Nat.mul_one]
      exact made1 _ rfl n
    rw [← h1]
theorem inf5 : (Tryz.prog.info? 5).map (fun i => (i.zero, i.size, decide (i.bytes ≤ 8))) = some (some (.int .u8 0), 1, true) := by kernel_rfl
theorem div_pow_succ (n k : Nat) : n / 256 ^ (k + 1) = n / 256 ^ k / 256 := by rw [Nat.pow_succ, Nat.div_div_eq_div_mul]
/-- How far By has come: the last k bytes are laid. -/
def bw (size n k j : Nat) : UInt8 := if size ≤ j + k then UInt8.ofNat (n / 256 ^ (size - 1 - j)) else 0
def bws (size n k : Nat) : List Value := (List.range size).map fun j => .int .u8 ((bw size n k j).toNat : Int)
theorem bws_zero (size n : Nat) : bws size n 0 = List.replicate size (.int .u8 0) := by
  unfold bws
  apply List.ext_getElem
  · simp
  · intro i h1 h2
    simp at h1
    simp [bw, show ¬ size ≤ i by omega]
theorem bws_step (size n k : Nat) (hk : k < size) : (bws size n k).set (size - 1 - k) (.int .u8 ((UInt8.ofNat (n / 256 ^ k)).toNat : Int)) = bws size n (k + 1) := by
  unfold bws
  apply List.ext_getElem
  · simp
  · intro i h1 h2
    simp at h1 h2
    rw [List.getElem_set]
    by_cases e : size - 1 - k = i
    · subst e
      simp [bw, show size ≤ size - 1 - k + (k + 1) by omega, show size - 1 - (size - 1 - k) = k by omega]
    · rw [if_neg e]
      simp [bw]
      by_cases q : size ≤ i + k
      · rw [if_pos q, if_pos (by omega)]
      · rw [if_neg q, if_neg (by omega)]
theorem bws_at (size n j : Nat) (hj : j < size) : (bws size n size)[j]? = some (.int .u8 (((be size n).getD j 0).toNat : Int)) := by
  unfold bws be
  simp [hj, bw]
set_option maxHeartbeats 1000000 in
set_option maxRecDepth 8000 in
theorem by_any (size n : Nat) (w : World) (h1 : 1 ≤ size) (h8 : size ≤ 8) (hn : n < 9223372036854775808) :
    Calls Tryz.prog 62 #[.int .i64 n, .int .i64 size] w fun e w' => e = .returned (.string ⟨(be size n).toArray⟩) ∧ Below w.heap.size w w' := by
  go_enter Tryz.func62, Tryz.ntmps62
  go_wp2_with (refine make1 inf5 Tryz.underlying105 rfl (.tmp 7) (.tmp 7) rfl _ _ size (by rfl) (by rfl) rfl rfl (by omega) ?_; intro w1 hb1 k1)
  rw [← bws_zero size n] at hb1
  have HB := hide hb1
  have HK := hide k1
  clear hb1 k1
  go_loopw [0, 6] (fun r i wr => ∃ k : Nat, k ≤ size ∧ i = .int .i64 ((size : Int) - 1 - k) ∧ r = .int .i64 ((n / 256 ^ k : Nat) : Int) ∧ Rb 5 w.heap.size (bws size n k) wr ∧ Below w.heap.size w wr) (fun _ i _ => (Go.RowKit.intOf i + 1).toNat)
  case atStart => exact ⟨0, by omega, by simp, by simp, unhide HB, unhide HK⟩
  case round =>
    obtain ⟨k, hk, rfl, rfl, hrw, hbr⟩ := hrel
    have hle : n / 256 ^ k ≤ n := Nat.div_le_self _ _
    by_cases hlt : k < size
    · have hnx := hide (div_pow_succ n k)
      have hst := hrw.set (size - 1 - k) (.int .u8 ((UInt8.ofNat (n / 256 ^ k)).toNat : Int))
      rw [bws_step size n k hlt] at hst
      have hb : ((UInt8.ofNat (n / 256 ^ k)).toNat : Int) = ((n / 256 ^ k : Nat) : Int) % 256 := by
        rw [UInt8.toNat_ofNat']
        omega
      rw [hb] at hst
      have hcell := hrw.cell (size - 1 - k)
      rw [List.getElem?_eq_getElem (show size - 1 - k < (bws size n k).length by unfold bws; simp; omega)] at hcell
      have hfz := hrw.fz (size - 1 - k)
      obtain ⟨v0, hv0⟩ : ∃ v0, (bws size n k)[size - 1 - k]'(by unfold bws; simp; omega) = v0 := ⟨_, rfl⟩
      rw [hv0] at hcell
      have HST := hide hst
      have HBR := hide (hbr.setCell (p := ⟨w.heap.size, size - 1 - k, none⟩) (Nat.le_refl _) (.int .u8 (((n / 256 ^ k : Nat) : Int) % 256)))
      obtain ⟨I, hI⟩ : ∃ I, size - 1 - k = I := ⟨_, rfl⟩
      have hIi : (size : Int) - 1 - k = (I : Int) := by omega
      rw [hI] at hcell hfz HST HBR
      rw [hIi]
      clear hst hb hrw hbr hv0
      generalize n / 256 ^ k = N at *
      have hI2 : (I : Int) < (size : Int) := by omega
      have hw8 : IntKind.u8.wrap ((N : Int) % 256) = (N : Int) % 256 := by rw [IntKind.wrap_u8]; omega
      have hA : bits .and .i64 (N : Int) 255 = (N : Int) % 256 := by have := and_mod 8 N (by decide) (by omega); simpa using this
      go_wp2
      go_roundw
      case rel => exact ⟨k + 1, by omega, congrArg (Value.int .i64) (by omega), congrArg (Value.int .i64) (by rw [unhide hnx]; omega), unhide HST, unhide HBR⟩
      case measure => simp [Go.RowKit.intOf]
    · have hks : k = size := by omega
      subst hks
      have hneg : ((k : Int) - 1 - k) = -1 := by omega
      rw [hneg]
      have hcells : ∀ j, j < k → wr.cell? ⟨w.heap.size, 0 + j, none⟩ = some (.int .u8 (((be k n).getD j 0).toNat : Int)) := fun j hj => by
        rw [Nat.zero_add, hrw.cell, bws_at k n j hj]
      have HX := hide (run_text wr w.heap.size 0 k k (be k n) (be_len k n) hcells)
      have HBR := hide hbr
      clear hcells hrw hbr
      go_wp2_with (refine wpList_conv rfl 105 9 (.tmp 23) rfl _ _ (by rfl) (unhide HX) ?_)
      go_ret
      exact ⟨rfl, unhide HBR⟩
end Go.Proofs.YtpidmpefodnffaaGreatDoor
namespace Go.Proofs.YtpidmpefodnffaaGreatDoor
open Go.RowKit Go.Lib
def ngs (size k : Nat) : List Value := (List.range size).map fun j => .int .u8 (if size ≤ j + k then 255 else 0)
theorem ngs_zero (size : Nat) : ngs size 0 = List.replicate size (.int .u8 0) := by
  unfold ngs
  apply List.ext_getElem
  · simp
  · intro i h1 h2
    simp at h1
    simp [show ¬ size ≤ i by omega]
theorem ngs_step (size k : Nat) (hk : k < size) : (ngs size k).set (size - 1 - k) (.int .u8 255) = ngs size (k + 1) := by
  unfold ngs
  apply List.ext_getElem
  · simp
  · intro i h1 h2
    simp at h1 h2
    rw [List.getElem_set]
    by_cases e : size - 1 - k = i
    · subst e
      simp [show size ≤ size - 1 - k + (k + 1) by omega]
    · rw [if_neg e]
      simp
      by_cases q : size ≤ i + k
      · rw [if_pos q, if_pos (by omega)]
      · rw [if_neg q, if_neg (by omega)]
theorem ngs_at (size j : Nat) (hj : j < size) : (ngs size size)[j]? = some (.int .u8 (((List.replicate size (255 : UInt8)).getD j 0).toNat : Int)) := by
  unfold ngs
  simp [hj]
set_option maxHeartbeats 1000000 in
set_option maxRecDepth 8000 in
/-- by of -1. -/
theorem by_neg (size : Nat) (w : World) (h1 : 1 ≤ size) (h8 : size ≤ 8) :
    Calls Tryz.prog 62 #[.int .i64 (-1), .int .i64 size] w fun e w' => e = .returned (.string ⟨(List.replicate size (255 : UInt8)).toArray⟩) ∧ Below w.heap.size w w' := by
  go_enter Tryz.func62, Tryz.ntmps62
  go_wp2_with (refine make1 inf5 Tryz.underlying105 rfl (.tmp 7) (.tmp 7) rfl _ _ size (by rfl) (by rfl) rfl rfl (by omega) ?_; intro w1 hb1 k1)
  rw [← ngs_zero size] at hb1
  have HB := hide hb1
  have HK := hide k1
  clear hb1 k1
  go_loopw [0, 6] (fun r i wr => ∃ k : Nat, k ≤ size ∧ i = .int .i64 ((size : Int) - 1 - k) ∧ r = .int .i64 (-1) ∧ Rb 5 w.heap.size (ngs size k) wr ∧ Below w.heap.size w wr) (fun _ i _ => (Go.RowKit.intOf i + 1).toNat)
  case atStart => exact ⟨0, by omega, by simp, rfl, unhide HB, unhide HK⟩
  case round =>
    obtain ⟨k, hk, rfl, rfl, hrw, hbr⟩ := hrel
    by_cases hlt : k < size
    · have hst := hrw.set (size - 1 - k) (.int .u8 255)
      rw [ngs_step size k hlt] at hst
      have hcell := hrw.cell (size - 1 - k)
      rw [List.getElem?_eq_getElem (show size - 1 - k < (ngs size k).length by unfold ngs; simp; omega)] at hcell
      have hfz := hrw.fz (size - 1 - k)
      obtain ⟨v0, hv0⟩ : ∃ v0, (ngs size k)[size - 1 - k]'(by unfold ngs; simp; omega) = v0 := ⟨_, rfl⟩
      rw [hv0] at hcell
      have HST := hide hst
      have HBR := hide (hbr.setCell (p := ⟨w.heap.size, size - 1 - k, none⟩) (Nat.le_refl _) (.int .u8 255))
      obtain ⟨I9, hI⟩ : ∃ I9, size - 1 - k = I9 := ⟨_, rfl⟩
      have hIi : (size : Int) - 1 - k = (I9 : Int) := by omega
      rw [hI] at hcell hfz HST HBR
      rw [hIi]
      clear hst hrw hbr hv0
      have hI2 : (I9 : Int) < (size : Int) := by omega
      have hA : bits .and .i64 (-1) 255 = 255 := by decide
      have hw8 : IntKind.u8.wrap 255 = 255 := by decide
      go_wp2
      go_roundw
      case rel => exact ⟨k + 1, by omega, congrArg (Value.int .i64) (by omega), rfl, unhide HST, unhide HBR⟩
      case measure => simp [Go.RowKit.intOf]
    · have hks : k = size := by omega
      subst hks
      have hneg : ((k : Int) - 1 - k) = -1 := by omega
      rw [hneg]
      have hcells : ∀ j, j < k → wr.cell? ⟨w.heap.size, 0 + j, none⟩ = some (.int .u8 (((List.replicate k (255 : UInt8)).getD j 0).toNat : Int)) := fun j hj => by
        rw [Nat.zero_add, hrw.cell, ngs_at k j hj]
      have HX := hide (run_text wr w.heap.size 0 k k (List.replicate k (255 : UInt8)) (by simp) hcells)
      have HBR := hide hbr
      clear hcells hrw hbr
      go_wp2_with (refine wpList_conv rfl 105 9 (.tmp 23) rfl _ _ (by rfl) (unhide HX) ?_)
      go_ret
      exact ⟨rfl, unhide HBR⟩
end Go.Proofs.YtpidmpefodnffaaGreatDoor
