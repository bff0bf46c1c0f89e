import Derived.Test.YtllialbdofklgaaGreatDoorZdsa
import Derived.Lib.BufSteps
import Derived.Deep.RegionLaw
import Derived.Maps.AppendAt
import Derived.Lib.AppendStr
import Derived.BigQuiet
import Derived.Deep.QuietTactic
namespace Go.Proofs.YtllialbdofklgaaGreatDoor
open Go.RowKit Go.Lib
def B (c : UInt8) : Value := .int .u8 (c.toNat : Int)
theorem ofInt_i64 (a : Nat) (ha : a < 9223372036854775808) : (BitVec.ofInt 64 (a : Int)).toNat = a := by
  rw [BitVec.toNat_ofInt]; omega
theorem i64_or_nat (a b : Nat) (ha : a < 9223372036854775808) (hb : b < 9223372036854775808) : bits .or .i64 (a : Int) (b : Int) = ((a ||| b : Nat) : Int) := by
  have hx : a ||| b < 2 ^ 63 := Nat.or_lt_two_pow ha hb
  have h1 := ofInt_i64 a ha
  have h2 := ofInt_i64 b hb
  have hb' : bits .or .i64 (a : Int) (b : Int) = IntKind.i64.wrap (((BitVec.ofInt 64 (a : Int)) ||| (BitVec.ofInt 64 (b : Int))).toNat : Int) := rfl
  rw [hb', BitVec.toNat_or, h1, h2, IntKind.wrap_i64]; omega
/-- Bits that stand behind others. -/
theorem or_add (k a b : Nat) (hb : b < 2 ^ k) (ha : a * 2 ^ k + b < 9223372036854775808) : bits .or .i64 ((a : Int) * 2 ^ k) (b : Int) = ((a * 2 ^ k + b : Nat) : Int) := by
  have e : ((a : Int) * 2 ^ k) = ((a * 2 ^ k : Nat) : Int) := by push_cast; rfl
  rw [e, i64_or_nat _ _ (by omega) (by omega)]
  congr 1
  rw [← Nat.shiftLeft_eq, Nat.shiftLeft_add_eq_or_of_lt hb]
theorem wrap_c (c : UInt8) : wrap64 (c.toNat : Int) = (c.toNat : Int) := IntWalk.wrap64_in _ (by have := c.toNat_lt; omega)
/-- Bytes in memory of one's own, that may be made longer. -/
def Own (base : Nat) (v : Value) (X : List UInt8) (W0 w : World) : Prop := OwnBuf base 5 v X.length (X.map B) W0 w
theorem wpList_conv {P : Program} {ops : Array Oper} {rest : List Oper} {o : Oper} {a : Act} {w : World} {Q : Exit → Act → World → Prop} (hgd : o.guard = none) (src dst : TypeId) (x : Operand) (ho : o.op = .convert src dst x)
    (v v' : Value) (hx : a.eval x = v) (hrun : (convert src dst v).run P w = .ok v' w)
    (h : wpList P ops Q rest (a.put o.dst v') w) : wpList P ops Q (o :: rest) a w :=
  wpList_plain hgd fun _ hK => by
    unfold Oper.wp execOp
    simp only [ho, hx, Sem.run_bind, hrun, Result.andThen_ok]
    exact hK _ _ h
theorem fold_push (l : List UInt8) (r : ByteArray) : (l.map fun c => (c.toNat : Int)).foldl (fun r n => r.push (UInt8.ofNat n.toNat)) r = ⟨r.data ++ l.toArray⟩ := by
  induction l generalizing r with
  | nil => simp
  | cons c l ih =>
    simp only [List.map_cons, List.foldl_cons, ih]
    simp [ByteArray.push]
/-- What lies in memory as bytes is the text of them. -/
theorem run_text (w : World) (g o len cap : Nat) (l : List UInt8) (hl : l.length = len) (h : ∀ j, j < len → w.cell? ⟨g, o + j, none⟩ = some (.int .u8 ((l.getD j 0).toNat : Int))) :
    (convert 79 9 (.slice (some ⟨g, o, none⟩) len cap)).run Tryz.prog w = .ok (.string ⟨l.toArray⟩) w := by
  rw [run_convert_bytes_string w 79 9 5 _ _ _ Tryz.underlying79 Tryz.underlying5 Tryz.underlying9]
  have hload : (loadCells ⟨g, o, none⟩ len).run Tryz.prog w = .ok ((l.map fun c => (c.toNat : Int)).map (Value.int .u8)).toArray w := by
    have := run_loadCells_list (P := Tryz.prog) w ⟨g, o, none⟩ ((l.map fun c => (c.toNat : Int)).map (Value.int .u8)) (fun j v hv => by
      have hadd : (⟨g, o, none⟩ : Addr).add j = ⟨g, o + j, none⟩ := by unfold Addr.add; split <;> simp_all
      rw [hadd]
      have hj : j < len := by
        have := (List.getElem?_eq_some_iff.1 hv).1
        simpa [hl] using this
      rw [h j hj, ← hv]
      simp [List.getElem?_map, List.getElem?_eq_getElem (by omega : j < l.length)])
    simpa [hl] using this
  rw [run_bytesToString w _ _ _ _ hload, fold_push]
  simp
theorem run_text_nil (w : World) : (convert 79 9 (.slice none 0 0)).run Tryz.prog w = .ok (.string ⟨(([] : List UInt8)).toArray⟩) w := by kernel_rfl
theorem Own.text {base : Nat} {v : Value} {X : List UInt8} {W0 w : World} (h : Own base v X W0 w) : (convert 79 9 v).run Tryz.prog w = .ok (.string ⟨X.toArray⟩) w := by
  have hc := fun {g : Nat} (hg : v.ownBlock = some g) => h.1.cells hg
  rcases h.1.2 with ⟨e, q⟩ | ⟨g, cap, cur, fz, e1, e2⟩
  · subst e
    have : X = [] := List.eq_nil_of_length_eq_zero q
    subst this
    exact run_text_nil w
  · subst e1
    refine run_text w g 0 X.length cap X rfl ?_
    intro j hj
    rw [Nat.zero_add]
    have := hc (g := g) rfl j (B (X.getD j 0)) (by simp [hj])
    have hadd : (⟨g, 0, none⟩ : Addr).add j = ⟨g, j, none⟩ := by unfold Addr.add; split <;> simp_all
    rw [hadd] at this
    exact this
theorem take_snoc (l : List UInt8) (k : Nat) (h : k < l.length) : l.take (k + 1) = l.take k ++ [l[k]] := List.take_succ_eq_append_getElem h
end Go.Proofs.YtllialbdofklgaaGreatDoor
namespace Go.Proofs.YtllialbdofklgaaGreatDoor
open Go.RowKit Go.Lib
/-- What was wrong, as the program keeps it. -/
def errV (E : Nat) : Value := if E = 0 then .nilIface else .iface 128 (.agg #[.int .i64 (E : Int)])
theorem errV_0 : errV 0 = .nilIface := rfl
theorem errV_ne {E : Nat} (h : E ≠ 0) : errV E = .iface 128 (.agg #[.int .i64 (E : Int)]) := by simp [errV, h]
/-- A Writer: what it has laid, what was wrong. -/
structure WAt (b : Nat) (v : Value) (X : List UInt8) (E : Nat) (w : World) : Prop where
  row : w.heap[b]? = some (.cells #[v, errV E] 125 (0, 0))
  own : w.ownsRow 0 5 1 v X.length (X.map B)
  ne : v.ownBlock ≠ some b
/-- Where a Writer stands. -/
def foot (b : Nat) (v : Value) : Nat → Prop := fun k => k = b ∨ v.ownBlock = some k
theorem ownsF_same {w w' : World} {v : Value} {n : Nat} {xs : List Value} (h : w.ownsRow 0 5 1 v n xs) (hb : ∀ k, v.ownBlock = some k → w'.heap[k]? = w.heap[k]?) : w'.ownsRow 0 5 1 v n xs := by
  refine ⟨h.1, ?_⟩
  rcases h.2 with q | ⟨g, cap, cur, e1, e2, e3, e4⟩
  · exact .inl q
  · exact .inr ⟨g, cap, cur, e1, e2, (hb g (by rw [e1]; rfl)).trans e3, e4⟩
theorem WAt.keep {b : Nat} {v : Value} {X : List UInt8} {E : Nat} {w w' : World} {P : Nat → Prop} (h : WAt b v X E w) (ho : Only P w w') (hb : ¬ P b) (hv : ∀ k, v.ownBlock = some k → ¬ P k) : WAt b v X E w' :=
  ⟨(ho.block b (lt_of_row h.row) hb).trans h.row, ownsF_same h.own (fun k hk => ho.block k ((World.ownsRowF_of h.own).lt k hk).2 (hv k hk)), h.ne⟩
theorem WAt.c0 {b : Nat} {v : Value} {X : List UInt8} {E : Nat} {w : World} (h : WAt b v X E w) : w.cell? ⟨b, 0, none⟩ = some v := by
  rw [cell_of_row w b 0 _ 125 (0, 0) h.row]; rfl
theorem WAt.c1 {b : Nat} {v : Value} {X : List UInt8} {E : Nat} {w : World} (h : WAt b v X E w) : w.cell? ⟨b, 1, none⟩ = some (errV E) := by
  rw [cell_of_row w b 1 _ 125 (0, 0) h.row]; rfl
theorem WAt.fz {b : Nat} {v : Value} {X : List UInt8} {E : Nat} {w : World} (h : WAt b v X E w) (j : Nat) : w.frozen? ⟨b, j, none⟩ = false := frozen_of_row w b j _ 125 h.row
theorem WAt.set1 {b : Nat} {v : Value} {X : List UInt8} {E E' : Nat} {w : World} (h : WAt b v X E w) : WAt b v X E' (w.setCell ⟨b, 1, none⟩ (errV E')) := by
  have hr := heap_setCell_same w b 1 _ 125 (errV E') h.row
  refine ⟨?_, ownsF_same h.own (fun k hk => heap_setCell_other w ⟨b, 1, none⟩ k _ (fun e => h.ne (by rw [hk, e]))), h.ne⟩
  simpa using hr
theorem ownsRow_form {w : World} {v : Value} {n : Nat} {xs : List Value} (h : w.ownsRow 0 5 1 v n xs) : ∃ p cap, v = .slice p n cap := by
  rcases h.2 with ⟨e, q⟩ | ⟨g, cap, cur, e1, e2⟩
  · exact ⟨none, 0, by rw [e, q]⟩
  · exact ⟨_, cap, e1⟩
/-- One more byte in a region whose order is drawn. -/
theorem step_push {ops : Array Oper} {o : Oper} {a : Act} {K : Act → World → Prop} {Q : Exit → Act → World → Prop} {R : Prop} (hgd : o.guard = none) (s x : Operand)
    (ho : o.op = .call { callee := .builtin .append, args := #[s, x], argTypes := #[79, 79] })
    (v : Value) (X : List UInt8) (hs : a.eval s = v) (w0 : World) (ci : Int) (c : UInt8) (hci : ci = (c.toNat : Int)) (hown : w0.ownsRow 0 5 1 v X.length (X.map B))
    (hx : a.eval x = .slice (some ⟨w0.heap.size, 0, none⟩) 1 1) (hlen : X.length + 1 ≤ 140737488355328)
    (h : ∀ p cap w', w'.ownsRow 0 5 1 (.slice p (X ++ [c]).length cap) (X ++ [c]).length ((X ++ [c]).map B) → Only (fun k => v.ownBlock = some k) w0 w' → (∀ k, (Value.slice p (X ++ [c]).length cap).ownBlock = some k → v.ownBlock = some k ∨ w0.heap.size ≤ k) → K (a.put o.dst (.slice p (X ++ [c]).length cap)) w') :
    if Region.wanted o (yielded ops a.tmps) = true then Oper.wp Tryz.prog o a (w0.alloc (.cells #[.int .u8 ci] 5)) K Q else R := by
  have hw : Region.wanted o (yielded ops a.tmps) = true := by simp [Region.wanted, hgd]
  rw [if_pos hw]
  subst hci
  obtain ⟨i0, hi, hz0, hz1, hz2⟩ := info_parts info5
  have hown' := ownsF_same (w' := w0.alloc (.cells #[.int .u8 (c.toNat : Int)] 5)) hown (fun k hk => Below.heap_alloc w0 _ k ((World.ownsRowF_of hown).lt k hk).2)
  have hnew : ∀ j u, [B c][j]? = some u → (w0.alloc (.cells #[.int .u8 (c.toNat : Int)] 5)).cell? ((⟨w0.heap.size, 0, none⟩ : Addr).add j) = some u := by
    intro j u hj
    match j, hj with
    | 0, hj => simp at hj; subst hj; simp [Addr.add, B]
    | (j + 1), hj => simp at hj
  obtain ⟨v', w', hr, h2, h3, _, h5⟩ := run_append_own_at (P := Tryz.prog) (w0.alloc (.cells #[.int .u8 (c.toNat : Int)] 5)) 0 79 o.type 5 i0 (.int .u8 0) 1 1 Tryz.underlying79 hi hz0 hz1 hz2 rfl (by decide) v X.length (X.map B) hown' ⟨w0.heap.size, 0, none⟩ 1 1 [B c] rfl hnew (by intro u hu; simp at hu; subst hu; rfl) (by unfold maxLen; omega) (by omega) (Nat.zero_le _)
  have hfresh : ∀ k, v'.ownBlock = some k → v.ownBlock = some k ∨ w0.heap.size ≤ k := by
    intro k hk
    rcases h5 with h5 | h5
    · left; rw [← h5]; exact hk
    · right; rw [hk] at h5; have := Option.some.inj h5; simp at this; omega
  unfold Oper.wp execOp
  simp only [ho, resolve, invoke, builtin, Sem.run_bind, Sem.run_pure, Result.andThen_ok, List.map_toArray, List.map_cons, List.map_nil, hs, hx, hr]
  have h2' : w'.ownsRow 0 5 1 v' (X ++ [c]).length ((X ++ [c]).map B) := by
    rw [List.length_append, List.map_append]
    exact h2
  obtain ⟨p, cap, rfl⟩ := ownsRow_form h2'
  exact h p cap w' h2' ((Only.alloc _ w0 _).trans (Only.of_grown h3) (fun k _ q => q)) hfresh
/-- The bytes of a text behind one's own. -/
theorem own_text {ops : Array Oper} {rest : List Oper} {o : Oper} {a : Act} {Q : Exit → Act → World → Prop} {w : World} (hgd : o.guard = none) (sl x : Operand)
    (ho : o.op = .call { callee := .builtin .append, args := #[sl, x], argTypes := #[79, 9] })
    (v : Value) (X : List UInt8) (hs : a.eval sl = v) (hown : w.ownsRow 0 5 1 v X.length (X.map B)) (s : List UInt8) (hx : a.eval x = .string ⟨s.toArray⟩) (hlen : X.length + s.length ≤ 140737488355328)
    (h : ∀ p cap w', w'.ownsRow 0 5 1 (.slice p (X ++ s).length cap) (X ++ s).length ((X ++ s).map B) → Only (fun k => v.ownBlock = some k) w w' → (∀ k, (Value.slice p (X ++ s).length cap).ownBlock = some k → v.ownBlock = some k ∨ w.heap.size ≤ k) → wpList Tryz.prog ops Q rest (a.put o.dst (.slice p (X ++ s).length cap)) w') : wpList Tryz.prog ops Q (o :: rest) a w := by
  refine wpList_plain hgd fun K hK => ?_
  obtain ⟨i0, hi, hz0, hz1, hz2⟩ := info_parts info5
  have hsz : (ByteArray.mk s.toArray).size = s.length := by simp [ByteArray.size]
  have e : strCells ⟨s.toArray⟩ = s.map B := by simp [strCells, B]
  obtain ⟨v', w', hr, h2, h3, _⟩ := run_append_own_string (P := Tryz.prog) w 0 79 9 o.type 5 i0 Tryz.underlying79 Tryz.underlying9 hi hz0 hz1 hz2 v X.length (X.map B) hown ⟨s.toArray⟩ (by rw [hsz]; unfold maxLen; omega) (by rw [hsz]; exact hlen) (Nat.zero_le _)
  have hfresh : ∀ k, v'.ownBlock = some k → v.ownBlock = some k ∨ w.heap.size ≤ k := by
    intro k hk
    rcases hown.2 with ⟨q1, q2⟩ | ⟨g, cap, cur, e1, e2, e3, e4, e5, e6, e7⟩
    · right
      have hX : X = [] := List.eq_nil_of_length_eq_zero q2
      subst hX q1
      obtain ⟨v2, w2, hr2, h22, _⟩ := run_append_own_string (P := Tryz.prog) w w.heap.size 79 9 o.type 5 i0 Tryz.underlying79 Tryz.underlying9 hi hz0 hz1 hz2 (.slice none 0 0) 0 [] (World.ownsRow_nil w _ _ _) ⟨s.toArray⟩ (by rw [hsz]; unfold maxLen; simp at hlen; omega) (by rw [hsz]; simp at hlen; omega) (Nat.le_refl _)
      rw [hr] at hr2
      injection hr2 with hv hw
      subst hv hw
      exact ((World.ownsRowF_of h22).lt k hk).1
    · subst e1
      by_cases hroom : X.length + (ByteArray.mk s.toArray).size ≤ cap
      · have hr2 := run_append_room_string (P := Tryz.prog) w 79 9 o.type 5 i0 Tryz.underlying79 Tryz.underlying9 hi hz1 g X.length cap cur e3 ⟨s.toArray⟩ hroom (by omega)
        rw [hr] at hr2
        injection hr2 with hv hw
        subst hv
        exact .inl hk
      · have holds : ∀ j u, (X.map B)[j]? = some u → w.cell? ((⟨g, 0, none⟩ : Addr).add j) = some u := hown.cells (g := g) rfl
        have hr2 := run_append_grow_string (P := Tryz.prog) w 79 9 o.type 5 i0 (.int .u8 0) Tryz.underlying79 Tryz.underlying9 hi hz0 ⟨g, 0, none⟩ X.length cap (X.map B) (by rw [hz1]; simp) holds ⟨s.toArray⟩ (by omega) (by rw [hsz]; omega) (by rw [hz2]; exact growslice_fits (by omega) (by rw [hsz]; omega))
        rw [hr] at hr2
        injection hr2 with hv hw
        subst hv
        right
        have : w.heap.size = k := by simpa [Value.ownBlock] using hk
        omega
  unfold Oper.wp execOp
  simp only [ho, resolve, invoke, builtin, Sem.run_bind, Sem.run_pure, Result.andThen_ok, List.map_toArray, List.map_cons, List.map_nil, hs, hx, hr]
  have h2' : w'.ownsRow 0 5 1 v' (X ++ s).length ((X ++ s).map B) := by
    rw [List.length_append, List.map_append]
    rw [hsz, e] at h2
    exact h2
  obtain ⟨p, cap, rfl⟩ := ownsRow_form h2'
  exact hK _ _ (h p cap w' h2' (Only.of_grown h3) hfresh)
theorem WAt.text {b : Nat} {v : Value} {X : List UInt8} {E : Nat} {w : World} (h : WAt b v X E w) : (convert 79 9 v).run Tryz.prog w = .ok (.string ⟨X.toArray⟩) w :=
  Own.text (base := 0) (W0 := w) ⟨World.ownsRowF_of h.own, Below.refl _ _, Nat.zero_le _⟩
end Go.Proofs.YtllialbdofklgaaGreatDoor
namespace Go.Proofs.YtllialbdofklgaaGreatDoor
open Go.RowKit Go.Lib
/-- A number by so many bytes, the highest first. -/
def be (size n : Nat) : List UInt8 := (List.range size).map fun i => UInt8.ofNat (n / 256 ^ (size - 1 - i))
theorem be_len (size n : Nat) : (be size n).length = size := by simp [be]
theorem be_next (size n k : Nat) (h : k < size) : (be size n).take (k + 1) = (be size n).take k ++ [UInt8.ofNat (n / 256 ^ (size - 1 - k))] := by
  rw [List.take_succ_eq_append_getElem (by rw [be_len]; exact h)]
  simp [be]
/-- What a Writer becomes. -/
def WTo (b : Nat) (v : Value) (X' : List UInt8) (E' : Nat) (w w' : World) : Prop :=
  ∃ v', WAt b v' X' E' w' ∧ Only (foot b v) w w' ∧ ∀ q, v'.ownBlock = some q → v.ownBlock = some q ∨ w.heap.size ≤ q
theorem WTo.step {b : Nat} {v v1 : Value} {X2 : List UInt8} {E2 : Nat} {w w1 w2 : World} (h1 : Only (foot b v) w w1) (h1f : ∀ q, v1.ownBlock = some q → v.ownBlock = some q ∨ w.heap.size ≤ q) (h2 : WTo b v1 X2 E2 w1 w2) : WTo b v X2 E2 w w2 := by
  obtain ⟨v2, a, o, f⟩ := h2
  refine ⟨v2, a, h1.trans o ?_, ?_⟩
  · intro k hk q
    rcases q with q | q
    · exact .inl q
    · rcases h1f k q with r | r
      · exact .inr r
      · omega
  · intro q hq
    rcases f q hq with r | r
    · exact h1f q r
    · exact .inr (Nat.le_trans h1.size r)
theorem WTo.same {b : Nat} {v : Value} {X : List UInt8} {E : Nat} {w : World} (h : WAt b v X E w) : WTo b v X E w w := ⟨v, h, Only.refl _ _, fun _ q => .inl q⟩
theorem WTo.err {b : Nat} {v : Value} {X : List UInt8} {E E' : Nat} {w : World} (h : WAt b v X E w) : WTo b v X E' w (w.setCell ⟨b, 1, none⟩ (errV E')) :=
  ⟨v, h.set1, (Only.setCell w ⟨b, 1, none⟩ (errV E')).trans (Only.refl (fun _ => False) _) (fun _ _ q => q.elim) |> fun o => ⟨o.os, o.tape, o.output, o.size, fun k hk hp => o.block k hk (fun e => hp (.inl e))⟩, fun _ q => .inl q⟩
set_option maxHeartbeats 1000000 in
theorem newwriter_any (w : World) :
    Calls Tryz.prog 88 #[] w fun e w' => e = .returned (.pointer (some ⟨w.heap.size, 0, none⟩)) ∧ WAt w.heap.size (.slice none 0 0) [] 0 w' ∧ Below w.heap.size w w' := by
  go_enter Tryz.func88, Tryz.ntmps88
  go_wp2
  go_ret
  refine ⟨rfl, ⟨?_, World.ownsRow_nil _ _ _ _, by simp [Value.ownBlock]⟩, (Below.refl _ _).alloc (Nat.le_refl _) _⟩
  exact heap_alloc_new _ _
theorem sized_any (size : Int) (w : World) :
    Calls Tryz.prog 107 #[.int .i64 size] w fun e w' => e = .returned (.bool (decide (1 ≤ size ∧ size ≤ 8))) ∧ w' = w := by
  by_cases h1 : 1 ≤ size
  · by_cases h8 : size ≤ 8
    · have hd : decide (1 ≤ size ∧ size ≤ 8) = true := by simp; omega
      rw [hd]
      go_enter Tryz.func107, Tryz.ntmps107
      go_wp2
      go_ret
      exact ⟨ret_bool (by simp), rfl⟩
    · have hd : decide (1 ≤ size ∧ size ≤ 8) = false := by simp; omega
      rw [hd]
      go_enter Tryz.func107, Tryz.ntmps107
      go_wp2
      go_ret
      exact ⟨ret_bool (by simp), rfl⟩
  · have hd : decide (1 ≤ size ∧ size ≤ 8) = false := by simp; omega
    have hd1 : decide (1 ≤ size) = false := by simp; omega
    rw [hd]
    go_enter Tryz.func107, Tryz.ntmps107
    go_wp2
    go_ret
    exact ⟨ret_bool (by simp), rfl⟩
theorem bounded_any (most : Int) (w : World) :
    Calls Tryz.prog 110 #[.int .i64 most] w fun e w' => e = .returned (.bool (decide (0 ≤ most ∧ most ≤ 65535))) ∧ w' = w := by
  by_cases h1 : 0 ≤ most
  · by_cases h8 : most ≤ 65535
    · have hd : decide (0 ≤ most ∧ most ≤ 65535) = true := by simp; omega
      rw [hd]
      go_enter Tryz.func110, Tryz.ntmps110
      go_wp2
      go_ret
      exact ⟨ret_bool (by simp), rfl⟩
    · have hd : decide (0 ≤ most ∧ most ≤ 65535) = false := by simp; omega
      rw [hd]
      go_enter Tryz.func110, Tryz.ntmps110
      go_wp2
      go_ret
      exact ⟨ret_bool (by simp), rfl⟩
  · have hd : decide (0 ≤ most ∧ most ≤ 65535) = false := by simp; omega
    have hd1 : decide (0 ≤ most) = false := by simp; omega
    rw [hd]
    go_enter Tryz.func110, Tryz.ntmps110
    go_wp2
    go_ret
    exact ⟨ret_bool (by simp), rfl⟩
/-- By how many bytes a text's length stands. -/
def ahd (most : Int) : Nat := if most ≤ 255 then 1 else 2
theorem lengthSize_any (most : Int) (w : World) :
    Calls Tryz.prog 111 #[.int .i64 most] w fun e w' => e = .returned (.int .i64 (ahd most)) ∧ w' = w := by
  by_cases h : most ≤ 255
  · have e : ahd most = 1 := by simp [ahd, h]
    rw [e]
    go_enter Tryz.func111, Tryz.ntmps111
    go_wp2
    go_ret
    exact ⟨rfl, rfl⟩
  · have e : ahd most = 2 := by simp [ahd, h]
    rw [e]
    go_enter Tryz.func111, Tryz.ntmps111
    go_wp2
    go_ret
    exact ⟨rfl, rfl⟩
/-- A number stands by so many bytes. -/
def stn (size : Nat) (n : Int) : Prop := 0 ≤ n ∧ n < 256 ^ size
theorem stands_any (size : Nat) (n : Int) (w : World) (h1 : 1 ≤ size) (h8 : size ≤ 8) (hn : n ≤ 9223372036854775807) (ok : Bool) (hok : ok = true ↔ stn size n) :
    Calls Tryz.prog 108 #[.int .i64 size, .int .i64 n] w fun e w' => e = .returned (.bool ok) ∧ w' = w := by
  unfold stn at hok
  by_cases h0 : 0 ≤ n
  · rcases (by omega : size = 1 ∨ size = 2 ∨ size = 3 ∨ size = 4 ∨ size = 5 ∨ size = 6 ∨ size = 7 ∨ size = 8) with rfl | rfl | rfl | rfl | rfl | rfl | rfl | rfl
    all_goals
      simp only [Int.reducePow] at hok
      have HOK := hide hok
      clear hok h1 h8
      go_enter Tryz.func108, Tryz.ntmps108
      go_wp2
      go_ret
      refine ⟨ret_bool ?_, rfl⟩
      have hok := unhide HOK
      rw [Bool.eq_iff_iff]
      rw [hok]
      simp
      omega
  · have hf : ok = false := by
      cases ok
      · rfl
      · exact absurd (hok.1 rfl).1 h0
    subst hf
    clear hok
    have hd : decide (0 ≤ n) = false := by simp; omega
    go_enter Tryz.func108, Tryz.ntmps108
    go_wp2
    go_ret
    exact ⟨ret_bool (by simp), rfl⟩
end Go.Proofs.YtllialbdofklgaaGreatDoor
namespace Go.Proofs.YtllialbdofklgaaGreatDoor
open Go.RowKit Go.Lib
theorem WAt.stored {b : Nat} {v v' : Value} {X X' : List UInt8} {E : Nat} {w w2 : World} (h : WAt b v X E w) (hown : w2.ownsRow 0 5 1 v' X'.length (X'.map B)) (ho : Only (fun k => v.ownBlock = some k) w w2) (hf : ∀ k, v'.ownBlock = some k → v.ownBlock = some k ∨ w.heap.size ≤ k) :
    WAt b v' X' E (w2.setCell ⟨b, 0, none⟩ v') ∧ Only (foot b v) w (w2.setCell ⟨b, 0, none⟩ v') := by
  have hlt := lt_of_row h.row
  have hrow : w2.heap[b]? = some (.cells #[v, errV E] 125 (0, 0)) := (ho.block b hlt h.ne).trans h.row
  have hne : v'.ownBlock ≠ some b := by
    intro q
    rcases hf b q with r | r
    · exact h.ne r
    · omega
  have hr := heap_setCell_same w2 b 0 _ 125 v' hrow
  refine ⟨⟨by simpa using hr, ownsF_same hown (fun k hk => heap_setCell_other w2 ⟨b, 0, none⟩ k _ (fun e => hne (by rw [hk, e]))), hne⟩, ?_⟩
  have o2 := Only.setCell w2 ⟨b, 0, none⟩ v'
  exact ⟨o2.os.trans ho.os, o2.tape.trans ho.tape, o2.output.trans ho.output, Nat.le_trans ho.size o2.size, fun k hk hp => (o2.block k (Nat.lt_of_lt_of_le hk ho.size) (fun e => hp (.inl e))).trans (ho.block k hk (fun e => hp (.inr e)))⟩
theorem Only.left_drew {P : Nat → Prop} {w w' : World} (h : Only P w.drew w') : Only P w w' := ⟨h.os, h.tape, h.output, h.size, h.block⟩
set_option maxHeartbeats 4000000 in
set_option maxRecDepth 8000 in
theorem lay_any (b : Nat) (v : Value) (X : List UInt8) (size n : Nat) (w : World) (h : WAt b v X 0 w) (h8 : size ≤ 8) (_hn : n < 9223372036854775808) (hX : X.length ≤ 70368744177664) :
    Calls Tryz.prog 109 #[.pointer (some ⟨b, 0, none⟩), .int .i64 size, .int .i64 n] w fun e w' => e = .returned (.tuple #[]) ∧ WTo b v (X ++ be size n) 0 w w' := by
  have H := hide h
  clear h
  go_enter Tryz.func109, Tryz.ntmps109
  go_wp2
  go_loopw [6] (fun i wr => ∃ k : Nat, k ≤ size ∧ i = .int .i64 ((size : Int) - 1 - (k : Int)) ∧ WTo b v (X ++ (be size n).take k) 0 w wr) (fun i _ => (intOf i + 1).toNat)
  case atStart => exact ⟨0, by omega, by simp, by simpa using WTo.same (unhide H)⟩
  case round =>
    clear H
    obtain ⟨k, hk, rfl, v1, h1, ho1, hf1⟩ := hrel
    by_cases hlt : k < size
    · obtain ⟨j, hj⟩ : ∃ j : Nat, size - 1 - k = j := ⟨_, rfl⟩
      have hji : (size : Int) - 1 - (k : Int) = (j : Int) := by omega
      have HNX := hide (be_next size n k hlt)
      rw [hj] at HNX
      have hj8 : j < 8 := by omega
      have hxl : (X ++ (be size n).take k).length ≤ 70368744177672 := by rw [List.length_append, List.length_take, be_len]; omega
      generalize (be size n).take k = Y at *
      have c0 := h1.c0
      have f0 := h1.fz 0
      have hblt := lt_of_row h1.row
      have HW := hide h1
      have HO := hide ho1
      have HF := hide hf1
      clear h1 ho1 hf1
      rw [hji]
      rcases (by omega : j = 0 ∨ j = 1 ∨ j = 2 ∨ j = 3 ∨ j = 4 ∨ j = 5 ∨ j = 6 ∨ j = 7) with rfl | rfl | rfl | rfl | rfl | rfl | rfl | rfl
      all_goals go_wp2
      · have HM : Hid (256 ^ 0 = 1) := hide (by decide)
        rw [unhide HM] at HNX
        have hw8 : IntKind.i64.wrap 0 = 0 := by decide
        go_region_law (refine step_push rfl (.tmp 17) (.tmp 23) rfl v1 (X ++ Y) (by rfl) wr.drew _ (UInt8.ofNat (n / 1)) (by first | (rw [IntKind.wrap_u8, UInt8.toNat_ofNat']; omega) | (rw [UInt8.toNat_ofNat']; omega)) (unhide HW).own (by rfl) (by omega) ?_; intro p2 cap2 w2 hown2 hon2 hfr2; generalize hl2 : (X ++ Y ++ [UInt8.ofNat (n / 1)]).length = len2 at *; have HL2 := hide hl2; clear hl2; have c2 : w2.cell? ⟨b, 0, none⟩ = some v1 := (Only.left_drew hon2 |> fun o => World.cell?_of_block (o.block b (lt_of_row (unhide HW).row) (unhide HW).ne)).trans (unhide HW).c0; have f2 : w2.frozen? ⟨b, 0, none⟩ = false := by (have o := Only.left_drew hon2; unfold World.frozen?; rw [o.block b (lt_of_row (unhide HW).row) (unhide HW).ne]; exact (unhide HW).fz 0))
        all_goals go_wp2
        all_goals (
          go_roundw
          case rel =>
            have hl2 := unhide HL2
            subst hl2
            obtain ⟨hA, hO⟩ := (unhide HW).stored hown2 (Only.left_drew hon2) hfr2
            refine ⟨k + 1, by omega, by first | (simp; omega) | (congr 1; omega), ?_⟩
            rw [unhide HNX, ← List.append_assoc]
            exact WTo.step (unhide HO) (unhide HF) ⟨_, hA, hO, hfr2⟩
          case measure => first | (simp [intOf]; done) | (simp [intOf]; omega))
      · have HM : Hid (256 ^ 1 = 256) := hide (by decide)
        rw [unhide HM] at HNX
        have hw8 : IntKind.i64.wrap 8 = 8 := by decide
        go_region_law (refine step_push rfl (.tmp 17) (.tmp 23) rfl v1 (X ++ Y) (by rfl) wr.drew _ (UInt8.ofNat (n / 256)) (by first | (rw [IntKind.wrap_u8, UInt8.toNat_ofNat']; omega) | (rw [UInt8.toNat_ofNat']; omega)) (unhide HW).own (by rfl) (by omega) ?_; intro p2 cap2 w2 hown2 hon2 hfr2; generalize hl2 : (X ++ Y ++ [UInt8.ofNat (n / 256)]).length = len2 at *; have HL2 := hide hl2; clear hl2; have c2 : w2.cell? ⟨b, 0, none⟩ = some v1 := (Only.left_drew hon2 |> fun o => World.cell?_of_block (o.block b (lt_of_row (unhide HW).row) (unhide HW).ne)).trans (unhide HW).c0; have f2 : w2.frozen? ⟨b, 0, none⟩ = false := by (have o := Only.left_drew hon2; unfold World.frozen?; rw [o.block b (lt_of_row (unhide HW).row) (unhide HW).ne]; exact (unhide HW).fz 0))
        all_goals go_wp2
        all_goals (
          go_roundw
          case rel =>
            have hl2 := unhide HL2
            subst hl2
            obtain ⟨hA, hO⟩ := (unhide HW).stored hown2 (Only.left_drew hon2) hfr2
            refine ⟨k + 1, by omega, by first | (simp; omega) | (congr 1; omega), ?_⟩
            rw [unhide HNX, ← List.append_assoc]
            exact WTo.step (unhide HO) (unhide HF) ⟨_, hA, hO, hfr2⟩
          case measure => first | (simp [intOf]; done) | (simp [intOf]; omega))
      · have HM : Hid (256 ^ 2 = 65536) := hide (by decide)
        rw [unhide HM] at HNX
        have hw8 : IntKind.i64.wrap 16 = 16 := by decide
        go_region_law (refine step_push rfl (.tmp 17) (.tmp 23) rfl v1 (X ++ Y) (by rfl) wr.drew _ (UInt8.ofNat (n / 65536)) (by first | (rw [IntKind.wrap_u8, UInt8.toNat_ofNat']; omega) | (rw [UInt8.toNat_ofNat']; omega)) (unhide HW).own (by rfl) (by omega) ?_; intro p2 cap2 w2 hown2 hon2 hfr2; generalize hl2 : (X ++ Y ++ [UInt8.ofNat (n / 65536)]).length = len2 at *; have HL2 := hide hl2; clear hl2; have c2 : w2.cell? ⟨b, 0, none⟩ = some v1 := (Only.left_drew hon2 |> fun o => World.cell?_of_block (o.block b (lt_of_row (unhide HW).row) (unhide HW).ne)).trans (unhide HW).c0; have f2 : w2.frozen? ⟨b, 0, none⟩ = false := by (have o := Only.left_drew hon2; unfold World.frozen?; rw [o.block b (lt_of_row (unhide HW).row) (unhide HW).ne]; exact (unhide HW).fz 0))
        all_goals go_wp2
        all_goals (
          go_roundw
          case rel =>
            have hl2 := unhide HL2
            subst hl2
            obtain ⟨hA, hO⟩ := (unhide HW).stored hown2 (Only.left_drew hon2) hfr2
            refine ⟨k + 1, by omega, by first | (simp; omega) | (congr 1; omega), ?_⟩
            rw [unhide HNX, ← List.append_assoc]
            exact WTo.step (unhide HO) (unhide HF) ⟨_, hA, hO, hfr2⟩
          case measure => first | (simp [intOf]; done) | (simp [intOf]; omega))
      · have HM : Hid (256 ^ 3 = 16777216) := hide (by decide)
        rw [unhide HM] at HNX
        have hw8 : IntKind.i64.wrap 24 = 24 := by decide
        go_region_law (refine step_push rfl (.tmp 17) (.tmp 23) rfl v1 (X ++ Y) (by rfl) wr.drew _ (UInt8.ofNat (n / 16777216)) (by first | (rw [IntKind.wrap_u8, UInt8.toNat_ofNat']; omega) | (rw [UInt8.toNat_ofNat']; omega)) (unhide HW).own (by rfl) (by omega) ?_; intro p2 cap2 w2 hown2 hon2 hfr2; generalize hl2 : (X ++ Y ++ [UInt8.ofNat (n / 16777216)]).length = len2 at *; have HL2 := hide hl2; clear hl2; have c2 : w2.cell? ⟨b, 0, none⟩ = some v1 := (Only.left_drew hon2 |> fun o => World.cell?_of_block (o.block b (lt_of_row (unhide HW).row) (unhide HW).ne)).trans (unhide HW).c0; have f2 : w2.frozen? ⟨b, 0, none⟩ = false := by (have o := Only.left_drew hon2; unfold World.frozen?; rw [o.block b (lt_of_row (unhide HW).row) (unhide HW).ne]; exact (unhide HW).fz 0))
        all_goals go_wp2
        all_goals (
          go_roundw
          case rel =>
            have hl2 := unhide HL2
            subst hl2
            obtain ⟨hA, hO⟩ := (unhide HW).stored hown2 (Only.left_drew hon2) hfr2
            refine ⟨k + 1, by omega, by first | (simp; omega) | (congr 1; omega), ?_⟩
            rw [unhide HNX, ← List.append_assoc]
            exact WTo.step (unhide HO) (unhide HF) ⟨_, hA, hO, hfr2⟩
          case measure => first | (simp [intOf]; done) | (simp [intOf]; omega))
      · have HM : Hid (256 ^ 4 = 4294967296) := hide (by decide)
        rw [unhide HM] at HNX
        have hw8 : IntKind.i64.wrap 32 = 32 := by decide
        go_region_law (refine step_push rfl (.tmp 17) (.tmp 23) rfl v1 (X ++ Y) (by rfl) wr.drew _ (UInt8.ofNat (n / 4294967296)) (by first | (rw [IntKind.wrap_u8, UInt8.toNat_ofNat']; omega) | (rw [UInt8.toNat_ofNat']; omega)) (unhide HW).own (by rfl) (by omega) ?_; intro p2 cap2 w2 hown2 hon2 hfr2; generalize hl2 : (X ++ Y ++ [UInt8.ofNat (n / 4294967296)]).length = len2 at *; have HL2 := hide hl2; clear hl2; have c2 : w2.cell? ⟨b, 0, none⟩ = some v1 := (Only.left_drew hon2 |> fun o => World.cell?_of_block (o.block b (lt_of_row (unhide HW).row) (unhide HW).ne)).trans (unhide HW).c0; have f2 : w2.frozen? ⟨b, 0, none⟩ = false := by (have o := Only.left_drew hon2; unfold World.frozen?; rw [o.block b (lt_of_row (unhide HW).row) (unhide HW).ne]; exact (unhide HW).fz 0))
        all_goals go_wp2
        all_goals (
          go_roundw
          case rel =>
            have hl2 := unhide HL2
            subst hl2
            obtain ⟨hA, hO⟩ := (unhide HW).stored hown2 (Only.left_drew hon2) hfr2
            refine ⟨k + 1, by omega, by first | (simp; omega) | (congr 1; omega), ?_⟩
            rw [unhide HNX, ← List.append_assoc]
            exact WTo.step (unhide HO) (unhide HF) ⟨_, hA, hO, hfr2⟩
          case measure => first | (simp [intOf]; done) | (simp [intOf]; omega))
      · have HM : Hid (256 ^ 5 = 1099511627776) := hide (by decide)
        rw [unhide HM] at HNX
        have hw8 : IntKind.i64.wrap 40 = 40 := by decide
        go_region_law (refine step_push rfl (.tmp 17) (.tmp 23) rfl v1 (X ++ Y) (by rfl) wr.drew _ (UInt8.ofNat (n / 1099511627776)) (by first | (rw [IntKind.wrap_u8, UInt8.toNat_ofNat']; omega) | (rw [UInt8.toNat_ofNat']; omega)) (unhide HW).own (by rfl) (by omega) ?_; intro p2 cap2 w2 hown2 hon2 hfr2; generalize hl2 : (X ++ Y ++ [UInt8.ofNat (n / 1099511627776)]).length = len2 at *; have HL2 := hide hl2; clear hl2; have c2 : w2.cell? ⟨b, 0, none⟩ = some v1 := (Only.left_drew hon2 |> fun o => World.cell?_of_block (o.block b (lt_of_row (unhide HW).row) (unhide HW).ne)).trans (unhide HW).c0; have f2 : w2.frozen? ⟨b, 0, none⟩ = false := by (have o := Only.left_drew hon2; unfold World.frozen?; rw [o.block b (lt_of_row (unhide HW).row) (unhide HW).ne]; exact (unhide HW).fz 0))
        all_goals go_wp2
        all_goals (
          go_roundw
          case rel =>
            have hl2 := unhide HL2
            subst hl2
            obtain ⟨hA, hO⟩ := (unhide HW).stored hown2 (Only.left_drew hon2) hfr2
            refine ⟨k + 1, by omega, by first | (simp; omega) | (congr 1; omega), ?_⟩
            rw [unhide HNX, ← List.append_assoc]
            exact WTo.step (unhide HO) (unhide HF) ⟨_, hA, hO, hfr2⟩
          case measure => first | (simp [intOf]; done) | (simp [intOf]; omega))
      · have HM : Hid (256 ^ 6 = 281474976710656) := hide (by decide)
        rw [unhide HM] at HNX
        have hw8 : IntKind.i64.wrap 48 = 48 := by decide
        go_region_law (refine step_push rfl (.tmp 17) (.tmp 23) rfl v1 (X ++ Y) (by rfl) wr.drew _ (UInt8.ofNat (n / 281474976710656)) (by first | (rw [IntKind.wrap_u8, UInt8.toNat_ofNat']; omega) | (rw [UInt8.toNat_ofNat']; omega)) (unhide HW).own (by rfl) (by omega) ?_; intro p2 cap2 w2 hown2 hon2 hfr2; generalize hl2 : (X ++ Y ++ [UInt8.ofNat (n / 281474976710656)]).length = len2 at *; have HL2 := hide hl2; clear hl2; have c2 : w2.cell? ⟨b, 0, none⟩ = some v1 := (Only.left_drew hon2 |> fun o => World.cell?_of_block (o.block b (lt_of_row (unhide HW).row) (unhide HW).ne)).trans (unhide HW).c0; have f2 : w2.frozen? ⟨b, 0, none⟩ = false := by (have o := Only.left_drew hon2; unfold World.frozen?; rw [o.block b (lt_of_row (unhide HW).row) (unhide HW).ne]; exact (unhide HW).fz 0))
        all_goals go_wp2
        all_goals (
          go_roundw
          case rel =>
            have hl2 := unhide HL2
            subst hl2
            obtain ⟨hA, hO⟩ := (unhide HW).stored hown2 (Only.left_drew hon2) hfr2
            refine ⟨k + 1, by omega, by first | (simp; omega) | (congr 1; omega), ?_⟩
            rw [unhide HNX, ← List.append_assoc]
            exact WTo.step (unhide HO) (unhide HF) ⟨_, hA, hO, hfr2⟩
          case measure => first | (simp [intOf]; done) | (simp [intOf]; omega))
      · have HM : Hid (256 ^ 7 = 72057594037927936) := hide (by decide)
        rw [unhide HM] at HNX
        have hw8 : IntKind.i64.wrap 56 = 56 := by decide
        go_region_law (refine step_push rfl (.tmp 17) (.tmp 23) rfl v1 (X ++ Y) (by rfl) wr.drew _ (UInt8.ofNat (n / 72057594037927936)) (by first | (rw [IntKind.wrap_u8, UInt8.toNat_ofNat']; omega) | (rw [UInt8.toNat_ofNat']; omega)) (unhide HW).own (by rfl) (by omega) ?_; intro p2 cap2 w2 hown2 hon2 hfr2; generalize hl2 : (X ++ Y ++ [UInt8.ofNat (n / 72057594037927936)]).length = len2 at *; have HL2 := hide hl2; clear hl2; have c2 : w2.cell? ⟨b, 0, none⟩ = some v1 := (Only.left_drew hon2 |> fun o => World.cell?_of_block (o.block b (lt_of_row (unhide HW).row) (unhide HW).ne)).trans (unhide HW).c0; have f2 : w2.frozen? ⟨b, 0, none⟩ = false := by (have o := Only.left_drew hon2; unfold World.frozen?; rw [o.block b (lt_of_row (unhide HW).row) (unhide HW).ne]; exact (unhide HW).fz 0))
        all_goals go_wp2
        all_goals (
          go_roundw
          case rel =>
            have hl2 := unhide HL2
            subst hl2
            obtain ⟨hA, hO⟩ := (unhide HW).stored hown2 (Only.left_drew hon2) hfr2
            refine ⟨k + 1, by omega, by first | (simp; omega) | (congr 1; omega), ?_⟩
            rw [unhide HNX, ← List.append_assoc]
            exact WTo.step (unhide HO) (unhide HF) ⟨_, hA, hO, hfr2⟩
          case measure => first | (simp [intOf]; done) | (simp [intOf]; omega))
    · have hkk : k = size := by omega
      subst hkk
      have hfull : (be k n).take k = be k n := List.take_of_length_le (by rw [be_len]; omega)
      rw [hfull] at h1
      have hres := hide (show WTo b v (X ++ be k n) 0 w wr from ⟨v1, h1, ho1, hf1⟩)
      clear h1 ho1 hf1 hfull
      have e1 : (k : Int) - 1 - (k : Int) = -1 := by omega
      rw [e1]
      go_wp2
      go_end0
      exact ⟨rfl, unhide hres⟩
end Go.Proofs.YtllialbdofklgaaGreatDoor
namespace Go.Proofs.YtllialbdofklgaaGreatDoor
open Go.RowKit Go.Lib
def stnB (size : Nat) (n : Int) : Bool := decide (0 ≤ n ∧ n < 256 ^ size)
theorem stnB_iff (size : Nat) (n : Int) : stnB size n = true ↔ stn size n := by simp [stnB, stn]
/-- What is wrong with Num. -/
def numE (size n : Int) : Nat := if 1 ≤ size ∧ size ≤ 8 then (if stnB size.toNat n = true then 0 else 20) else 1
/-- What is wrong with Text. -/
def textE (most : Int) (len : Nat) : Nat := if 0 ≤ most ∧ most ≤ 65535 then (if (len : Int) ≤ most then 0 else 21) else 1
/-- A Writer behind a call: what it has, what is wrong. -/
def wPut (X : List UInt8) (E e : Nat) (Y : List UInt8) : List UInt8 × Nat := if E ≠ 0 then (X, E) else if e ≠ 0 then (X, e) else (X ++ Y, 0)
theorem wPut_old {X : List UInt8} {E e : Nat} {Y : List UInt8} (h : E ≠ 0) : wPut X E e Y = (X, E) := by simp [wPut, h]
theorem wPut_bad {X : List UInt8} {e : Nat} {Y : List UInt8} (h : e ≠ 0) : wPut X 0 e Y = (X, e) := by simp [wPut, h]
theorem wPut_ok {X : List UInt8} {Y : List UInt8} : wPut X 0 0 Y = (X ++ Y, 0) := by simp [wPut]
def numY (size n : Int) : List UInt8 := be size.toNat n.toNat
def textY (most : Int) (s : List UInt8) : List UInt8 := be (ahd most) s.length ++ s
set_option maxHeartbeats 1000000 in
theorem wraw_any (b : Nat) (v : Value) (X : List UInt8) (E : Nat) (s : List UInt8) (w : World) (h : WAt b v X E w) (hX : X.length + s.length ≤ 70368744177664) :
    Calls Tryz.prog 112 #[.pointer (some ⟨b, 0, none⟩), .string ⟨s.toArray⟩] w fun e w' => e = .returned (.tuple #[]) ∧ WTo b v (wPut X E 0 s).1 (wPut X E 0 s).2 w w' := by
  have c0 := h.c0
  have c1 := h.c1
  have f0 := h.fz 0
  by_cases hE : E = 0
  · subst hE
    rw [wPut_ok]
    rw [errV_0] at c1
    have H := hide h
    clear h
    go_enter Tryz.func112, Tryz.ntmps112
    go_wp2_with (at_builtin; refine own_text rfl (.tmp 13) (.tmp 14) rfl v X (by rfl) (unhide H).own s (by rfl) (by omega) ?_; intro p2 cap2 w2 hown2 hon2 hfr2; generalize hl2 : (X ++ s).length = len2 at *; have HL2 := hide hl2; clear hl2; have c2 : w2.cell? ⟨b, 0, none⟩ = some v := (World.cell?_of_block (hon2.block b (lt_of_row (unhide H).row) (unhide H).ne)).trans (unhide H).c0; have f2 : w2.frozen? ⟨b, 0, none⟩ = false := by (unfold World.frozen?; rw [hon2.block b (lt_of_row (unhide H).row) (unhide H).ne]; exact (unhide H).fz 0))
    go_end0
    have hl2 := unhide HL2
    subst hl2
    obtain ⟨hA, hO⟩ := (unhide H).stored hown2 hon2 hfr2
    exact ⟨rfl, _, hA, hO, hfr2⟩
  · rw [wPut_old hE]
    rw [errV_ne hE] at c1
    have H := hide h
    clear h
    go_enter Tryz.func112, Tryz.ntmps112
    go_wp2
    go_end0
    exact ⟨rfl, WTo.same (unhide H)⟩
set_option maxHeartbeats 1000000 in
theorem wnum_any (b : Nat) (v : Value) (X : List UInt8) (E : Nat) (size n : Int) (w : World) (h : WAt b v X E w) (hn : n ≤ 9223372036854775807) (hX : X.length ≤ 70368744177664) :
    Calls Tryz.prog 89 #[.pointer (some ⟨b, 0, none⟩), .int .i64 size, .int .i64 n] w fun e w' => e = .returned (.tuple #[]) ∧ WTo b v (wPut X E (numE size n) (numY size n)).1 (wPut X E (numE size n) (numY size n)).2 w w' := by
  have c1 := h.c1
  have f1 := h.fz 1
  by_cases hE : E = 0
  · subst hE
    rw [errV_0] at c1
    have H := hide h
    clear h
    by_cases hs : 1 ≤ size ∧ size ≤ 8
    · obtain ⟨k, hk⟩ : ∃ k : Nat, size = (k : Int) := ⟨size.toNat, by omega⟩
      subst hk
      have hk1 : 1 ≤ k := by omega
      have hk8 : k ≤ 8 := by omega
      have hsd : decide (1 ≤ (k : Int) ∧ (k : Int) ≤ 8) = true := by simpa using hs
      by_cases hst : stnB k n = true
      · have he : numE k n = 0 := by simp [numE, hs, hst]
        obtain ⟨m, hm⟩ : ∃ m : Nat, n = (m : Int) := ⟨n.toNat, by have := (stnB_iff k n).1 hst; unfold stn at this; omega⟩
        subst hm
        rw [he, wPut_ok]
        have hy : numY k m = be k m := by simp [numY]
        rw [hy]
        have hst' := stands_any k (m : Int) w hk1 hk8 hn true (by rw [← stnB_iff, hst])
        have HST := hide hst'
        clear hs hst he hy hst'
        go_enter Tryz.func89, Tryz.ntmps89
        go_wp2_with fail
        refine (sized_any (k : Int) w).mono ?_
        rintro e w' ⟨rfl, rfl⟩
        rw [hsd]
        go_wp2_with fail
        refine (unhide HST).mono ?_
        rintro e w'' ⟨rfl, rfl⟩
        go_wp2_with fail
        refine (lay_any b v X k m w'' (unhide H) hk8 (by omega) hX).mono ?_
        rintro e w3 ⟨rfl, hto⟩
        go_wp2
        go_end0
        exact ⟨rfl, hto⟩
      · have hst0 : stnB k n = false := by simpa using hst
        have he : numE k n = 20 := by simp [numE, hs, hst0]
        rw [he, wPut_bad (by decide)]
        have hst' := stands_any k n w hk1 hk8 hn false (by rw [← stnB_iff, hst0])
        have HST := hide hst'
        clear hs hst he hst' hst0
        go_enter Tryz.func89, Tryz.ntmps89
        go_wp2_with fail
        refine (sized_any (k : Int) w).mono ?_
        rintro e w' ⟨rfl, rfl⟩
        rw [hsd]
        go_wp2_with fail
        refine (unhide HST).mono ?_
        rintro e w'' ⟨rfl, rfl⟩
        go_wp2
        go_end0
        exact ⟨rfl, WTo.err (E' := 20) (unhide H)⟩
    · have he : numE size n = 1 := by simp [numE, hs]
      have hsd : decide (1 ≤ size ∧ size ≤ 8) = false := by simpa using hs
      rw [he, wPut_bad (by decide)]
      clear hs he
      go_enter Tryz.func89, Tryz.ntmps89
      go_wp2_with fail
      refine (sized_any size w).mono ?_
      rintro e w' ⟨rfl, rfl⟩
      rw [hsd]
      go_wp2
      go_end0
      exact ⟨rfl, WTo.err (E' := 1) (unhide H)⟩
  · rw [wPut_old hE]
    rw [errV_ne hE] at c1
    have H := hide h
    clear h
    go_enter Tryz.func89, Tryz.ntmps89
    go_wp2
    go_end0
    exact ⟨rfl, WTo.same (unhide H)⟩
theorem be1_len (most : Int) (n : Nat) : (be (ahd most) n).length ≤ 2 := by rw [be_len]; unfold ahd; split <;> omega
set_option maxHeartbeats 1000000 in
theorem wtext_any (b : Nat) (v : Value) (X : List UInt8) (E : Nat) (most : Int) (s : List UInt8) (w : World) (h : WAt b v X E w) (hX : X.length + s.length + 2 ≤ 70368744177664) :
    Calls Tryz.prog 90 #[.pointer (some ⟨b, 0, none⟩), .int .i64 most, .string ⟨s.toArray⟩] w fun e w' => e = .returned (.tuple #[]) ∧ WTo b v (wPut X E (textE most s.length) (textY most s)).1 (wPut X E (textE most s.length) (textY most s)).2 w w' := by
  have c1 := h.c1
  have f1 := h.fz 1
  by_cases hE : E = 0
  · subst hE
    rw [errV_0] at c1
    have H := hide h
    clear h
    by_cases hs : 0 ≤ most ∧ most ≤ 65535
    · have hsd : decide (0 ≤ most ∧ most ≤ 65535) = true := by simpa using hs
      by_cases hl : (s.length : Int) ≤ most
      · have he : textE most s.length = 0 := by simp [textE, hs, hl]
        rw [he, wPut_ok]
        have ha8 : ahd most ≤ 8 := by unfold ahd; split <;> omega
        have hbl := be1_len most s.length
        have hld : decide ((s.length : Int) > most) = false := by simp; omega
        have hs2 := hs.2
        clear hs he
        go_enter Tryz.func90, Tryz.ntmps90
        go_wp2_with fail
        refine (bounded_any most w).mono ?_
        rintro e w' ⟨rfl, rfl⟩
        rw [hsd]
        go_wp2_with fail
        refine (lengthSize_any most w').mono ?_
        rintro e w'' ⟨rfl, rfl⟩
        go_wp2_with fail
        refine (lay_any b v X (ahd most) s.length w'' (unhide H) ha8 (by omega) (by omega)).mono ?_
        rintro e w3 ⟨rfl, v3, hA3, hO3, hf3⟩
        have HA3 := hide hA3
        clear hA3
        go_wp2_with fail
        refine (wraw_any b v3 (X ++ be (ahd most) s.length) 0 s w3 (unhide HA3) (by rw [List.length_append]; omega)).mono ?_
        rintro e w4 ⟨rfl, hto⟩
        rw [wPut_ok] at hto
        go_wp2
        go_end0
        refine ⟨rfl, WTo.step hO3 hf3 ?_⟩
        rw [textY, ← List.append_assoc]
        exact hto
      · have he : textE most s.length = 21 := by simp [textE, hs, hl]
        rw [he, wPut_bad (by decide)]
        have hld : decide ((s.length : Int) > most) = true := by simp; omega
        clear hs he
        go_enter Tryz.func90, Tryz.ntmps90
        go_wp2_with fail
        refine (bounded_any most w).mono ?_
        rintro e w' ⟨rfl, rfl⟩
        rw [hsd]
        go_wp2
        go_end0
        exact ⟨rfl, WTo.err (E' := 21) (unhide H)⟩
    · have he : textE most s.length = 1 := by simp [textE, hs]
      have hsd : decide (0 ≤ most ∧ most ≤ 65535) = false := by simpa using hs
      rw [he, wPut_bad (by decide)]
      clear hs he
      go_enter Tryz.func90, Tryz.ntmps90
      go_wp2_with fail
      refine (bounded_any most w).mono ?_
      rintro e w' ⟨rfl, rfl⟩
      rw [hsd]
      go_wp2
      go_end0
      exact ⟨rfl, WTo.err (E' := 1) (unhide H)⟩
  · rw [wPut_old hE]
    rw [errV_ne hE] at c1
    have H := hide h
    clear h
    go_enter Tryz.func90, Tryz.ntmps90
    go_wp2
    go_end0
    exact ⟨rfl, WTo.same (unhide H)⟩
theorem as_nil (t : Value) (w : World) :
    Calls Tryz.prog 113 #[.nilIface, t] w fun e w' => e = .returned (.bool false) ∧ w' = w := by
  go_enter Tryz.func113, Tryz.ntmps113
  go_wp2
  go_ret
  exact ⟨rfl, rfl⟩
set_option maxHeartbeats 1000000 in
theorem wdone_ok (b : Nat) (v : Value) (X : List UInt8) (w : World) (h : WAt b v X 0 w) :
    Calls Tryz.prog 91 #[.pointer (some ⟨b, 0, none⟩)] w fun e w' => e = .returned (.tuple #[.string ⟨X.toArray⟩, .int .i64 0]) ∧ Below w.heap.size w w' := by
  have c0 := h.c0
  have c1 := h.c1
  rw [errV_0] at c1
  have hlt := lt_of_row h.row
  have hk : WAt b v X 0 (w.alloc (.cells #[.int .i64 0] 128)) := h.keep (Only.alloc (fun _ => False) w _) (fun q => q) (fun _ _ q => q)
  have HX := hide hk.text
  clear h hk
  go_enter Tryz.func91, Tryz.ntmps91
  go_wp2_with fail
  refine (as_nil _ _).mono ?_
  rintro e w1 ⟨rfl, rfl⟩
  go_wp2_with (refine wpList_conv rfl 79 9 (.tmp 16) rfl _ _ (by rfl) (unhide HX) ?_)
  go_ret2
  exact ⟨rfl, (Below.refl _ _).alloc (Nat.le_refl _) _⟩
end Go.Proofs.YtllialbdofklgaaGreatDoor
namespace Go.Proofs.YtllialbdofklgaaGreatDoor
open Go.RowKit Go.Lib
/-- Bytes that lie in memory from a place on. -/
structure Bys (g off cap : Nat) (R : List UInt8) (w : World) : Prop where
  cell : ∀ j, j < R.length → w.cell? ⟨g, off + j, none⟩ = some (.int .u8 ((R.getD j 0).toNat : Int))
  cap : R.length ≤ cap
  lt : g < w.heap.size
theorem Bys.keep {g off cap : Nat} {R : List UInt8} {w w' : World} {P : Nat → Prop} (h : Bys g off cap R w) (ho : Only P w w') (hg : ¬ P g) : Bys g off cap R w' :=
  ⟨fun j hj => (World.cell?_of_block (ho.block g h.lt hg)).trans (h.cell j hj), h.cap, Nat.lt_of_lt_of_le h.lt ho.size⟩
theorem Bys.text {g off cap : Nat} {R : List UInt8} {w : World} (h : Bys g off cap R w) (n : Nat) (hn : n ≤ R.length) (c : Nat) : (convert 79 9 (.slice (some ⟨g, off, none⟩) n c)).run Tryz.prog w = .ok (.string ⟨(R.take n).toArray⟩) w :=
  run_text w g off n c (R.take n) (by rw [List.length_take]; omega) (fun j hj => by
    rw [h.cell j (by omega)]
    simp [show j < n from hj])
/-- A Reader: what is left, what was wrong. -/
structure RAt (b g off cap : Nat) (R : List UInt8) (E : Nat) (w : World) : Prop where
  row : w.heap[b]? = some (.cells #[.slice (some ⟨g, off, none⟩) R.length cap, errV E] 134 (0, 0))
  bys : Bys g off cap R w
  ne : g ≠ b
theorem RAt.keep {b g off cap : Nat} {R : List UInt8} {E : Nat} {w w' : World} {P : Nat → Prop} (h : RAt b g off cap R E w) (ho : Only P w w') (hb : ¬ P b) (hg : ¬ P g) : RAt b g off cap R E w' :=
  ⟨(ho.block b (lt_of_row h.row) hb).trans h.row, h.bys.keep ho hg, h.ne⟩
theorem RAt.c0 {b g off cap : Nat} {R : List UInt8} {E : Nat} {w : World} (h : RAt b g off cap R E w) : w.cell? ⟨b, 0, none⟩ = some (.slice (some ⟨g, off, none⟩) R.length cap) := by
  rw [cell_of_row w b 0 _ 134 (0, 0) h.row]; rfl
theorem RAt.c1 {b g off cap : Nat} {R : List UInt8} {E : Nat} {w : World} (h : RAt b g off cap R E w) : w.cell? ⟨b, 1, none⟩ = some (errV E) := by
  rw [cell_of_row w b 1 _ 134 (0, 0) h.row]; rfl
theorem RAt.fz {b g off cap : Nat} {R : List UInt8} {E : Nat} {w : World} (h : RAt b g off cap R E w) (j : Nat) : w.frozen? ⟨b, j, none⟩ = false := frozen_of_row w b j _ 134 h.row
theorem RAt.set1 {b g off cap : Nat} {R : List UInt8} {E E' : Nat} {w : World} (h : RAt b g off cap R E w) : RAt b g off cap R E' (w.setCell ⟨b, 1, none⟩ (errV E')) := by
  have hr := heap_setCell_same w b 1 _ 134 (errV E') h.row
  refine ⟨by simpa using hr, h.bys.keep (Only.setCell w ⟨b, 1, none⟩ _) h.ne, h.ne⟩
theorem RAt.set0 {b g off cap off' cap' : Nat} {R R' : List UInt8} {E : Nat} {w : World} (h : RAt b g off cap R E w) (hb : Bys g off' cap' R' w) : RAt b g off' cap' R' E (w.setCell ⟨b, 0, none⟩ (.slice (some ⟨g, off', none⟩) R'.length cap')) := by
  have hr := heap_setCell_same w b 0 _ 134 (.slice (some ⟨g, off', none⟩) R'.length cap') h.row
  refine ⟨by simpa using hr, hb.keep (Only.setCell w ⟨b, 0, none⟩ _) h.ne, h.ne⟩
/-- What a Reader becomes. -/
def RTo (b g : Nat) (R' : List UInt8) (E' : Nat) (w w' : World) : Prop := (∃ off cap, RAt b g off cap R' E' w') ∧ Only (fun k => k = b) w w'
theorem RTo.same {b g off cap : Nat} {R : List UInt8} {E : Nat} {w : World} (h : RAt b g off cap R E w) : RTo b g R E w w := ⟨⟨off, cap, h⟩, Only.refl _ _⟩
theorem RTo.err {b g off cap : Nat} {R : List UInt8} {E E' : Nat} {w : World} (h : RAt b g off cap R E w) : RTo b g R E' w (w.setCell ⟨b, 1, none⟩ (errV E')) := ⟨⟨off, cap, h.set1⟩, Only.setCell w ⟨b, 1, none⟩ (errV E')⟩
theorem RTo.step {b g : Nat} {R2 : List UInt8} {E2 : Nat} {w w1 w2 : World} (h1 : Only (fun k => k = b) w w1) (h2 : RTo b g R2 E2 w1 w2) : RTo b g R2 E2 w w2 :=
  ⟨h2.1, h1.trans h2.2 (fun _ _ q => q)⟩
theorem take_drop_bys {g off cap : Nat} {R : List UInt8} {w : World} (h : Bys g off cap R w) (n : Nat) (hn : n ≤ R.length) : Bys g off cap (R.take n) w :=
  ⟨fun j hj => by
    rw [List.length_take] at hj
    rw [h.cell j (by omega)]
    simp [show j < n by omega], by rw [List.length_take]; have := h.cap; omega, h.lt⟩
theorem drop_bys {g off cap : Nat} {R : List UInt8} {w : World} (h : Bys g off cap R w) (n : Nat) (hn : n ≤ R.length) : Bys g (off + n) (cap - n) (R.drop n) w :=
  ⟨fun j hj => by
    rw [List.length_drop] at hj
    rw [Nat.add_assoc, h.cell (n + j) (by omega)]
    simp, by rw [List.length_drop]; have := h.cap; omega, h.lt⟩
/-- The bytes of a text in new memory. -/
theorem wpList_bytes {ops : Array Oper} {rest : List Oper} {o : Oper} {a : Act} {w : World} {Q : Exit → Act → World → Prop} (hgd : o.guard = none) (x : Operand) (ho : o.op = .convert 9 79 x)
    (s : List UInt8) (hx : a.eval x = .string ⟨s.toArray⟩)
    (h : ∀ w' cap, Bys w.heap.size 0 cap s w' → Below w.heap.size w w' → wpList Tryz.prog ops Q rest (a.put o.dst (.slice (some ⟨w.heap.size, 0, none⟩) s.length cap)) w') : wpList Tryz.prog ops Q (o :: rest) a w := by
  refine wpList_plain hgd fun K hK => ?_
  have hrun := run_bytes_of_string (P := Tryz.prog) w 9 79 5 ⟨s.toArray⟩ Tryz.underlying9 Tryz.underlying79 Tryz.underlying5
  have hsz : (ByteArray.mk s.toArray).size = s.length := by simp [ByteArray.size]
  unfold Oper.wp execOp
  simp only [ho, hx, Sem.run_bind, hrun, Result.andThen_ok]
  rw [hsz]
  refine hK _ _ (h _ _ ⟨?_, ?_, ?_⟩ ?_)
  · intro j hj
    rw [Nat.zero_add]
    have e := World.cell?_alloc_mark w.drew (bytesRow ⟨s.toArray⟩ (grownCap w s.length 0 5)) 5 ((bytesRow ⟨s.toArray⟩ (grownCap w s.length 0 5)).size, (bytesRow ⟨s.toArray⟩ (grownCap w s.length 0 5)).size + 1) j
    refine e.trans ?_
    rw [bytesRow_at _ _ _ (by simpa using hj)]
    simp [hj]
  · exact grownCap_ge w s.length 0 5
  · simp
  · exact ((Below.refl _ _).drew).alloc (Nat.le_refl _) _
set_option maxHeartbeats 1000000 in
theorem newreader_any (s : List UInt8) (w : World) :
    Calls Tryz.prog 92 #[.string ⟨s.toArray⟩] w fun e w' => ∃ b g cap, e = .returned (.pointer (some ⟨b, 0, none⟩)) ∧ w.heap.size ≤ b ∧ w.heap.size ≤ g ∧ RAt b g 0 cap s 0 w' ∧ Below w.heap.size w w' := by
  go_enter Tryz.func92, Tryz.ntmps92
  go_wp2_with (refine wpList_bytes rfl (.tmp 3) rfl s (by rfl) ?_; intro w1 cap1 hb1 hbe1)
  go_ret
  refine ⟨w1.heap.size, w.heap.size, cap1, rfl, hbe1.size, Nat.le_refl _, ⟨?_, ?_, ?_⟩, hbe1.alloc hbe1.size _⟩
  · exact heap_alloc_new _ _
  · exact hb1.keep (Only.alloc (fun _ => False) w1 _) (fun q => q)
  · have := hb1.lt; omega
set_option maxHeartbeats 1000000 in
theorem take_any (b g off cap : Nat) (R : List UInt8) (E n : Nat) (w : World) (h : RAt b g off cap R E w) (hn : n ≤ R.length) (_hR : R.length ≤ 9223372036854775807) :
    Calls Tryz.prog 115 #[.pointer (some ⟨b, 0, none⟩), .int .i64 n] w fun e w' => e = .returned (.slice (some ⟨g, off, none⟩) n cap) ∧ RTo b g (R.drop n) E w w' := by
  have c0 := h.c0
  have f0 := h.fz 0
  have hcap := h.bys.cap
  by_cases hc : cap = n
  · subst hc
    have hRn : R.length = cap := by omega
    have hnil : R.drop cap = [] := List.drop_of_length_le (by omega)
    have hb0 : Bys g off 0 (R.drop cap) w := ⟨fun j hj => by rw [hnil] at hj; simp at hj, by rw [hnil]; simp, h.bys.lt⟩
    have hto := h.set0 hb0
    rw [hnil] at hto ⊢
    have HT := hide hto
    have hRR : R.length - cap = 0 := by omega
    clear h hnil hb0 hto
    go_enter Tryz.func115, Tryz.ntmps115
    go_wp2
    go_ret
    refine ⟨rfl, ⟨off, 0, ?_⟩, Only.setCell w ⟨b, 0, none⟩ _⟩
    simpa using unhide HT
  · have hto := h.set0 (drop_bys h.bys n hn)
    rw [List.length_drop] at hto
    have HT := hide hto
    clear h hto
    go_enter Tryz.func115, Tryz.ntmps115
    go_wp2
    go_ret
    exact ⟨rfl, ⟨off + n, cap - n, unhide HT⟩, Only.setCell w ⟨b, 0, none⟩ _⟩
/-- A number that stands by bytes, the highest first. -/
def nat (l : List UInt8) : Nat := l.foldl (fun n c => n * 256 + c.toNat) 0
theorem nat_snoc (l : List UInt8) (c : UInt8) : nat (l ++ [c]) = nat l * 256 + c.toNat := by simp [nat]
theorem nat_lt (l : List UInt8) : nat l < 256 ^ l.length := by
  suffices ∀ l : List UInt8, ∀ n k : Nat, n < 256 ^ k → l.foldl (fun n c => n * 256 + c.toNat) n < 256 ^ (k + l.length) by
    have := this l 0 0 (by simp)
    simpa [nat] using this
  intro l
  induction l with
  | nil => intro n k h; simpa using h
  | cons c l ih =>
    intro n k h
    have hc := c.toNat_lt
    have := ih (n * 256 + c.toNat) (k + 1) (by rw [Nat.pow_succ]; omega)
    rw [List.foldl_cons, List.length_cons]
    rw [show k + (l.length + 1) = k + 1 + l.length by omega]
    exact this
theorem nat_take (l : List UInt8) (k : Nat) (hk : k < l.length) (hb : nat l < 9223372036854775808) : nat (l.take k) < 36028797018963968 ∧ nat (l.take (k + 1)) < 9223372036854775808 := by
  have mono : ∀ m : List UInt8, ∀ n, n * 256 ^ m.length ≤ m.foldl (fun n c => n * 256 + c.toNat) n := by
    intro m
    induction m with
    | nil => intro n; simp
    | cons c m ih =>
      intro n
      have := ih (n * 256 + c.toNat)
      rw [List.foldl_cons, List.length_cons, Nat.pow_succ]
      refine Nat.le_trans ?_ this
      rw [Nat.mul_comm (256 ^ m.length) 256, ← Nat.mul_assoc]
      exact Nat.mul_le_mul_right _ (by omega)
  have hsplit : ∀ j, nat (l.take j) * 256 ^ (l.drop j).length ≤ nat l := by
    intro j
    have := mono (l.drop j) (nat (l.take j))
    refine Nat.le_trans this ?_
    unfold nat
    rw [← List.foldl_append, List.take_append_drop]
    exact Nat.le_refl _
  constructor
  · have h1 := hsplit k
    have h2 : 256 ≤ 256 ^ (l.drop k).length := by
      rw [List.length_drop]
      calc 256 = 256 ^ 1 := rfl
        _ ≤ 256 ^ (l.length - k) := Nat.pow_le_pow_right (by omega) (by omega)
    have h3 : nat (l.take k) * 256 ≤ nat (l.take k) * 256 ^ (l.drop k).length := Nat.mul_le_mul_left _ h2
    omega
  · have h1 := hsplit (k + 1)
    have h2 : 1 ≤ 256 ^ (l.drop (k + 1)).length := Nat.one_le_pow _ _ (by omega)
    have h3 : nat (l.take (k + 1)) * 1 ≤ nat (l.take (k + 1)) * 256 ^ (l.drop (k + 1)).length := Nat.mul_le_mul_left _ h2
    omega
theorem or8n (n : Nat) (c : UInt8) (h : n < 36028797018963968) : bits .or .i64 ((n : Int) * 256) (c.toNat : Int) = ((n * 256 + c.toNat : Nat) : Int) := by
  have hc := c.toNat_lt
  exact or_add 8 n c.toNat (by omega) (by omega)
set_option maxHeartbeats 1000000 in
set_option maxRecDepth 8000 in
theorem number_any (g off cap n : Nat) (l : List UInt8) (w : World) (h : Bys g off cap l w) (hl : l.length = n) (hn : n ≤ 8) (hb : nat l < 9223372036854775808) :
    Calls Tryz.prog 114 #[.slice (some ⟨g, off, none⟩) n cap] w fun e w' => e = .returned (.int .i64 (nat l)) ∧ w' = w := by
  have hcell := h.cell
  have hc := h.cap
  have HC := hide hcell
  clear h hcell
  go_enter Tryz.func114, Tryz.ntmps114
  go_wp2
  go_loop [3, 8] (fun r i => ∃ k : Nat, k ≤ n ∧ i = .int .i64 k ∧ r = .int .i64 (nat (l.take k))) (fun _ i => n - (intOf i).toNat)
  case atStart => exact ⟨0, by omega, rfl, rfl⟩
  case round =>
    obtain ⟨k, hk, rfl, rfl⟩ := hrel
    by_cases hlt : k < n
    · have hbd := nat_take l k (by omega) hb
      have hnx := hide (show nat (l.take (k + 1)) = nat (l.take k) * 256 + (l.getD k 0).toNat by
        rw [take_snoc l k (by omega), nat_snoc]
        simp [show k < l.length by omega])
      have hcl := unhide HC k (by omega)
      generalize nat (l.take k) = N at *
      generalize l.getD k 0 = c at *
      have hor := or8n N c hbd.1
      have hcl2 := c.toNat_lt
      have hwc := wrap_c c
      obtain ⟨M, hM⟩ : ∃ M, N * 256 + c.toNat = M := ⟨_, rfl⟩
      rw [hM] at hor
      have HM : Hid (nat (l.take (k + 1)) = M) := hide (by rw [unhide hnx, hM])
      have hN := hbd.1
      clear hbd hnx hM hcl2
      go_wp2
      go_round
      case rel => exact ⟨k + 1, by omega, by go_num, by rw [unhide HM]⟩
      case measure => simp [intOf]; omega
    · have hkl : l.take k = l := List.take_of_length_le (by omega)
      rw [hkl]
      have hd : decide (k < n) = false := by simp; omega
      go_wp2
      go_ret
      exact ⟨rfl, rfl⟩
end Go.Proofs.YtllialbdofklgaaGreatDoor
namespace Go.Proofs.YtllialbdofklgaaGreatDoor
open Go.RowKit Go.Lib
/-- What is wrong with Num of a Reader, with Text, with Raw. -/
def rNumE (size : Int) (R : List UInt8) : Nat := if 1 ≤ size ∧ size ≤ 8 then (if (R.length : Int) < size then 22 else if size = 8 ∧ 128 ≤ (R.getD 0 0).toNat then 20 else 0) else 1
def rTextE (most : Int) (R : List UInt8) : Nat := if 0 ≤ most ∧ most ≤ 65535 then (if R.length < ahd most then 22 else if most < (nat (R.take (ahd most)) : Int) then 21 else if R.length - ahd most < nat (R.take (ahd most)) then 22 else 0) else 1
/-- A Reader behind a call that takes k bytes. -/
def rGo (R : List UInt8) (E e k : Nat) : List UInt8 × Nat := if E ≠ 0 then (R, E) else if e ≠ 0 then (R, e) else (R.drop k, 0)
theorem rGo_old {R : List UInt8} {E e k : Nat} (h : E ≠ 0) : rGo R E e k = (R, E) := by simp [rGo, h]
theorem rGo_bad {R : List UInt8} {e k : Nat} (h : e ≠ 0) : rGo R 0 e k = (R, e) := by simp [rGo, h]
theorem rGo_ok {R : List UInt8} {k : Nat} : rGo R 0 0 k = (R.drop k, 0) := by simp [rGo]
/-- Is nothing wrong? -/
def fine (E e : Nat) : Bool := E == 0 && e == 0
theorem fine_old {E e : Nat} (h : E ≠ 0) : fine E e = false := by simp [fine, h]
theorem fine_bad {e : Nat} (h : e ≠ 0) : fine 0 e = false := by simp [fine, h]
theorem fine_ok : fine 0 0 = true := rfl
theorem getD_take (R : List UInt8) (k : Nat) (hk : 0 < k) : (R.take k).getD 0 0 = R.getD 0 0 := by
  cases R with
  | nil => simp
  | cons c R => cases k with
    | zero => omega
    | succ k => simp
theorem nat_first (l : List UInt8) (h : l.length = 8) : nat l < 9223372036854775808 ↔ (l.getD 0 0).toNat < 128 := by
  match l, h with
  | [a, b, c, d, e, f, g, i], _ =>
    have h1 := a.toNat_lt
    have h2 := b.toNat_lt
    have h3 := c.toNat_lt
    have h4 := d.toNat_lt
    have h5 := e.toNat_lt
    have h6 := f.toNat_lt
    have h7 := g.toNat_lt
    have h8 := i.toNat_lt
    simp only [nat, List.foldl_cons, List.foldl_nil, List.getD_cons_zero]
    omega
theorem nat_small (l : List UInt8) (k : Nat) (hk : k ≤ 7) (h : l.length = k) : nat l < 9223372036854775808 := by
  have := nat_lt l
  have h2 : 256 ^ l.length ≤ 256 ^ 7 := Nat.pow_le_pow_right (by omega) (by omega)
  have h3 : 256 ^ 7 = 72057594037927936 := by decide
  omega
set_option maxHeartbeats 1000000 in
set_option maxRecDepth 8000 in
theorem rnum_any (b g off cap : Nat) (R : List UInt8) (E : Nat) (size : Int) (w : World) (h : RAt b g off cap R E w) (hR : R.length ≤ 9223372036854775807) :
    Calls Tryz.prog 93 #[.pointer (some ⟨b, 0, none⟩), .int .i64 size] w fun e w' => e = .returned (.int .i64 (if fine E (rNumE size R) then (nat (R.take size.toNat) : Int) else 0)) ∧ RTo b g (rGo R E (rNumE size R) size.toNat).1 (rGo R E (rNumE size R) size.toNat).2 w w' := by
  have c0 := h.c0
  have c1 := h.c1
  have f1 := h.fz 1
  by_cases hE : E = 0
  · subst hE
    rw [errV_0] at c1
    by_cases hs : 1 ≤ size ∧ size ≤ 8
    · obtain ⟨k, hk⟩ : ∃ k : Nat, size = (k : Int) := ⟨size.toNat, by omega⟩
      subst hk
      have hk1 : 1 ≤ k := by omega
      have hk8 : k ≤ 8 := by omega
      have hsd : decide (1 ≤ (k : Int) ∧ (k : Int) ≤ 8) = true := by simpa using hs
      by_cases hl : R.length < k
      · have he : rNumE k R = 22 := by unfold rNumE; rw [if_pos hs, if_pos (by omega)]
        rw [he, rGo_bad (by decide), fine_bad (by decide)]
        have H := hide h
        clear h he hs
        go_enter Tryz.func93, Tryz.ntmps93
        go_wp2_with fail
        refine (sized_any (k : Int) w).mono ?_
        rintro e w' ⟨rfl, rfl⟩
        rw [hsd]
        go_wp2
        go_ret
        exact ⟨rfl, RTo.err (E' := 22) (unhide H)⟩
      · have hlk : k ≤ R.length := by omega
        by_cases h8 : k = 8
        · have hcl := h.bys.cell 0 (by omega)
          rw [Nat.add_zero] at hcl
          have hcl2 := (R.getD 0 0).toNat_lt
          by_cases h128 : 128 ≤ (R.getD 0 0).toNat
          · have he : rNumE k R = 20 := by unfold rNumE; rw [if_pos hs, if_neg (by omega), if_pos ⟨by omega, h128⟩]
            rw [he, rGo_bad (by decide), fine_bad (by decide)]
            have H := hide h
            generalize R.getD 0 0 = c at *
            subst h8
            clear h he hs hl
            go_enter Tryz.func93, Tryz.ntmps93
            go_wp2_with fail
            refine (sized_any ((8 : Nat) : Int) w).mono ?_
            rintro e w' ⟨rfl, rfl⟩
            rw [hsd]
            go_wp2
            go_ret
            exact ⟨rfl, RTo.err (E' := 20) (unhide H)⟩
          · have he : rNumE k R = 0 := by unfold rNumE; rw [if_pos hs, if_neg (by omega), if_neg (by omega)]
            have hnat : nat (R.take k) < 9223372036854775808 := by
              rw [nat_first _ (by rw [List.length_take]; omega), getD_take R k (by omega)]; omega
            rw [he, rGo_ok, fine_ok]
            have H := hide h
            generalize R.getD 0 0 = c at *
            subst h8
            clear h he hs hl
            go_enter Tryz.func93, Tryz.ntmps93
            go_wp2_with fail
            refine (sized_any ((8 : Nat) : Int) w).mono ?_
            rintro e w' ⟨rfl, rfl⟩
            rw [hsd]
            go_wp2_with fail
            refine (take_any b g off cap R 0 8 w' (unhide H) hlk hR).mono ?_
            rintro e w1 ⟨rfl, hto⟩
            have hby := take_drop_bys ((unhide H).bys.keep hto.2 (unhide H).ne) 8 hlk
            go_wp2_with fail
            refine (number_any g off cap 8 (R.take 8) w1 hby (by rw [List.length_take]; omega) (by omega) hnat).mono ?_
            rintro e w2 ⟨rfl, rfl⟩
            go_wp2
            go_ret
            exact ⟨rfl, hto⟩
        · have he : rNumE k R = 0 := by unfold rNumE; rw [if_pos hs, if_neg (by omega), if_neg (by omega)]
          have hnat : nat (R.take k) < 9223372036854775808 := nat_small _ k (by omega) (by rw [List.length_take]; omega)
          rw [he, rGo_ok, fine_ok]
          have hne : ((k : Int) == 8) = false := by simp; omega
          have H := hide h
          clear h he hs hl
          go_enter Tryz.func93, Tryz.ntmps93
          go_wp2_with fail
          refine (sized_any (k : Int) w).mono ?_
          rintro e w' ⟨rfl, rfl⟩
          rw [hsd]
          go_wp2_with fail
          refine (take_any b g off cap R 0 k w' (unhide H) hlk hR).mono ?_
          rintro e w1 ⟨rfl, hto⟩
          have hby := take_drop_bys ((unhide H).bys.keep hto.2 (unhide H).ne) k hlk
          go_wp2_with fail
          refine (number_any g off cap k (R.take k) w1 hby (by rw [List.length_take]; omega) (by omega) hnat).mono ?_
          rintro e w2 ⟨rfl, rfl⟩
          go_wp2
          go_ret
          exact ⟨rfl, hto⟩
    · have he : rNumE size R = 1 := by simp [rNumE, hs]
      have hsd : decide (1 ≤ size ∧ size ≤ 8) = false := by simpa using hs
      rw [he, rGo_bad (by decide), fine_bad (by decide)]
      have H := hide h
      clear hs he h
      go_enter Tryz.func93, Tryz.ntmps93
      go_wp2_with fail
      refine (sized_any size w).mono ?_
      rintro e w' ⟨rfl, rfl⟩
      rw [hsd]
      go_wp2
      go_ret
      exact ⟨rfl, RTo.err (E' := 1) (unhide H)⟩
  · rw [rGo_old hE, fine_old hE]
    rw [errV_ne hE] at c1
    have H := hide h
    clear h
    go_enter Tryz.func93, Tryz.ntmps93
    go_wp2
    go_ret
    exact ⟨rfl, RTo.same (unhide H)⟩
end Go.Proofs.YtllialbdofklgaaGreatDoor
namespace Go.Proofs.YtllialbdofklgaaGreatDoor
open Go.RowKit Go.Lib
/-- The text that stands there. -/
def rTextS (most : Int) (R : List UInt8) : List UInt8 := (R.drop (ahd most)).take (nat (R.take (ahd most)))
def rTextK (most : Int) (R : List UInt8) : Nat := ahd most + nat (R.take (ahd most))
theorem ahd_le (most : Int) : 1 ≤ ahd most ∧ ahd most ≤ 2 := by unfold ahd; split <;> omega
theorem nat_ahd (R : List UInt8) (k : Nat) (hk : k ≤ 2) : nat (R.take k) < 65536 := by
  have := nat_lt (R.take k)
  have h2 : 256 ^ (R.take k).length ≤ 256 ^ 2 := Nat.pow_le_pow_right (by omega) (by rw [List.length_take]; omega)
  have h3 : 256 ^ 2 = 65536 := by decide
  omega
set_option maxHeartbeats 2000000 in
set_option maxRecDepth 8000 in
theorem rtext_any (b g off cap : Nat) (R : List UInt8) (E : Nat) (most : Int) (w : World) (h : RAt b g off cap R E w) (hR : R.length ≤ 9223372036854775807) :
    Calls Tryz.prog 94 #[.pointer (some ⟨b, 0, none⟩), .int .i64 most] w fun e w' => e = .returned (.string ⟨(if fine E (rTextE most R) then rTextS most R else []).toArray⟩) ∧ RTo b g (rGo R E (rTextE most R) (rTextK most R)).1 (rGo R E (rTextE most R) (rTextK most R)).2 w w' := by
  have c0 := h.c0
  have c1 := h.c1
  have f1 := h.fz 1
  have ha := ahd_le most
  have hcap := h.bys.cap
  by_cases hE : E = 0
  · subst hE
    rw [errV_0] at c1
    by_cases hs : 0 ≤ most ∧ most ≤ 65535
    · have hsd : decide (0 ≤ most ∧ most ≤ 65535) = true := by simpa using hs
      have hs0 := hs.1
      have hs1 := hs.2
      by_cases hl : R.length < ahd most
      · have he : rTextE most R = 22 := by unfold rTextE; rw [if_pos hs, if_pos hl]
        rw [he, rGo_bad (by decide), fine_bad (by decide)]
        have HLS := hide (lengthSize_any most w)
        have H := hide h
        clear h he hs
        generalize hk : ahd most = k at *
        clear hk
        go_enter Tryz.func94, Tryz.ntmps94
        go_wp2_with fail
        refine (unhide HLS).mono ?_
        rintro e w' ⟨rfl, rfl⟩
        go_wp2_with fail
        refine (bounded_any most w').mono ?_
        rintro e w'' ⟨rfl, rfl⟩
        rw [hsd]
        go_wp2
        go_ret
        exact ⟨rfl, RTo.err (E' := 22) (unhide H)⟩
      · have hlk : ahd most ≤ R.length := by omega
        have hnl := nat_ahd R (ahd most) (by omega)
        by_cases h21 : most < (nat (R.take (ahd most)) : Int)
        · have he : rTextE most R = 21 := by unfold rTextE; rw [if_pos hs, if_neg hl, if_pos h21]
          rw [he, rGo_bad (by decide), fine_bad (by decide)]
          have hby := take_drop_bys h.bys (ahd most) hlk
          have hln : (R.take (ahd most)).length = ahd most := by rw [List.length_take]; omega
          have HLS := hide (lengthSize_any most w)
          have H := hide h
          have HBY := hide hby
          have HLN := hide hln
          have hq : ∀ W : World, Only (fun _ => False) w W → Calls Tryz.prog 114 #[.slice (some ⟨g, off, none⟩) (ahd most) cap] W fun e w' => e = .returned (.int .i64 (nat (R.take (ahd most)))) ∧ w' = W := fun W hW => number_any g off cap (ahd most) (R.take (ahd most)) W ((unhide HBY).keep hW (fun q => q)) (unhide HLN) (by omega) (by omega)
          have HQ := hide hq
          clear h he hs hby hln hq
          generalize hk : ahd most = k at *
          generalize hN : nat (R.take k) = N at *
          have HKK := hide hk
          have HNN := hide hN
          clear hk hN
          go_enter Tryz.func94, Tryz.ntmps94
          go_wp2_with fail
          refine (unhide HLS).mono ?_
          rintro e w' ⟨rfl, rfl⟩
          go_wp2_with fail
          refine (bounded_any most w').mono ?_
          rintro e w'' ⟨rfl, rfl⟩
          rw [hsd]
          go_wp2_with fail
          refine (unhide HQ _ (Only.refl _ _)).mono ?_
          rintro e w'' ⟨rfl, rfl⟩
          go_wp2
          go_ret
          exact ⟨rfl, RTo.err (E' := 21) (unhide H)⟩
        · by_cases h22 : R.length - ahd most < nat (R.take (ahd most))
          · have he : rTextE most R = 22 := by unfold rTextE; rw [if_pos hs, if_neg hl, if_neg h21, if_pos h22]
            rw [he, rGo_bad (by decide), fine_bad (by decide)]
            have hby := take_drop_bys h.bys (ahd most) hlk
            have hln : (R.take (ahd most)).length = ahd most := by rw [List.length_take]; omega
            have HLS := hide (lengthSize_any most w)
            have H := hide h
            have HBY := hide hby
            have HLN := hide hln
            have hq : ∀ W : World, Only (fun _ => False) w W → Calls Tryz.prog 114 #[.slice (some ⟨g, off, none⟩) (ahd most) cap] W fun e w' => e = .returned (.int .i64 (nat (R.take (ahd most)))) ∧ w' = W := fun W hW => number_any g off cap (ahd most) (R.take (ahd most)) W ((unhide HBY).keep hW (fun q => q)) (unhide HLN) (by omega) (by omega)
            have HQ := hide hq
            clear h he hs hby hln hq
            generalize hk : ahd most = k at *
            generalize hN : nat (R.take k) = N at *
            have HKK := hide hk
            have HNN := hide hN
            clear hk hN
            go_enter Tryz.func94, Tryz.ntmps94
            go_wp2_with fail
            refine (unhide HLS).mono ?_
            rintro e w' ⟨rfl, rfl⟩
            go_wp2_with fail
            refine (bounded_any most w').mono ?_
            rintro e w'' ⟨rfl, rfl⟩
            rw [hsd]
            go_wp2_with fail
            refine (unhide HQ _ (Only.refl _ _)).mono ?_
            rintro e w'' ⟨rfl, rfl⟩
            have hwr : IntKind.i64.wrap ((R.length : Int) - (k : Int)) = (R.length : Int) - (k : Int) := IntWalk.i64_in _ (by omega)
            have hd : decide ((R.length : Int) - (k : Int) < (N : Int)) = true := by simp; omega
            have hd1 : (R.length : Int) - (k : Int) < (N : Int) := by omega
            go_wp2_with fail
            go_quiet ((go_at_call 114; first | exact Calls.quiet_of_same (unhide HQ _ (Only.refl _ _)) | exact Calls.quiet_of_same (unhide HQ _ (Only.drewN _ _ _)) | exact Calls.quiet_of_same (unhide HQ _ (Only.drew _ _))))
            have c1q : (w''.drewN nq).cell? ⟨b, 1, none⟩ = some .nilIface := c1
            have f1q : (w''.drewN nq).frozen? ⟨b, 1, none⟩ = false := f1
            have HRq := hide ((unhide H).keep (Only.drewN (fun _ => False) w'' nq) (fun q => q) (fun q => q))
            have HOq := hide (Only.drewN (fun k => k = b) w'' nq)
            generalize w''.drewN nq = wq at *
            go_wp2
            go_ret
            exact ⟨rfl, RTo.step (unhide HOq) (RTo.err (E' := 22) (unhide HRq))⟩
          · have he : rTextE most R = 0 := by unfold rTextE; rw [if_pos hs, if_neg hl, if_neg h21, if_neg h22]
            have HS := hide (show rTextS most R = (R.drop (ahd most)).take (nat (R.take (ahd most))) from rfl)
            have HK := hide (show rTextK most R = ahd most + nat (R.take (ahd most)) from rfl)
            rw [he, rGo_ok, fine_ok]
            have hby := take_drop_bys h.bys (ahd most) hlk
            have hln : (R.take (ahd most)).length = ahd most := by rw [List.length_take]; omega
            have HLS := hide (lengthSize_any most w)
            have H := hide h
            have HBY := hide hby
            have HLN := hide hln
            have hq : ∀ W : World, Only (fun _ => False) w W → Calls Tryz.prog 114 #[.slice (some ⟨g, off, none⟩) (ahd most) cap] W fun e w' => e = .returned (.int .i64 (nat (R.take (ahd most)))) ∧ w' = W := fun W hW => number_any g off cap (ahd most) (R.take (ahd most)) W ((unhide HBY).keep hW (fun q => q)) (unhide HLN) (by omega) (by omega)
            have HQ := hide hq
            clear h he hs hby hln hq
            generalize hk : ahd most = k at *
            generalize hN : nat (R.take k) = N at *
            have HKK := hide hk
            have HNN := hide hN
            clear hk hN
            go_enter Tryz.func94, Tryz.ntmps94
            go_wp2_with fail
            refine (unhide HLS).mono ?_
            rintro e w' ⟨rfl, rfl⟩
            go_wp2_with fail
            refine (bounded_any most w').mono ?_
            rintro e w'' ⟨rfl, rfl⟩
            rw [hsd]
            go_wp2_with fail
            refine (unhide HQ _ (Only.refl _ _)).mono ?_
            rintro e w'' ⟨rfl, rfl⟩
            have hwr : IntKind.i64.wrap ((R.length : Int) - (k : Int)) = (R.length : Int) - (k : Int) := IntWalk.i64_in _ (by omega)
            have hd : decide ((R.length : Int) - (k : Int) < (N : Int)) = false := by simp; omega
            go_wp2_with fail
            go_quiet ((go_at_call 114; first | exact Calls.quiet_of_same (unhide HQ _ (Only.refl _ _)) | exact Calls.quiet_of_same (unhide HQ _ (Only.drewN _ _ _)) | exact Calls.quiet_of_same (unhide HQ _ (Only.drew _ _))))
            have HRq := hide ((unhide H).keep (Only.drewN (fun _ => False) w'' nq) (fun q => q) (fun q => q))
            have HOq := hide (Only.drewN (fun k => k = b) w'' nq)
            have HQq := hide (fun W (hW : Only (fun k => k = b) w'' W) => number_any g off cap k (R.take k) W ((unhide HBY).keep hW (unhide H).ne) (unhide HLN) (by omega) (by rw [unhide HNN]; omega))
            generalize w''.drewN nq = wq at *
            go_wp2_with fail
            refine (take_any b g off cap R 0 k wq (unhide HRq) hlk hR).mono ?_
            rintro e w1 ⟨rfl, hto1⟩
            have hO1 := (unhide HOq).trans hto1.2 (fun _ _ q => q)
            have hnum := unhide HQq w1 hO1
            rw [unhide HNN] at hnum
            have HNUM := hide hnum
            clear hnum
            go_wp2_with fail
            refine (unhide HNUM).mono ?_
            rintro e w2 ⟨rfl, rfl⟩
            obtain ⟨off1, cap1, hR1⟩ := hto1.1
            have hln1 : N ≤ (R.drop k).length := by rw [List.length_drop]; omega
            have HR1 := hide hR1
            clear hR1
            go_wp2_with fail
            refine (take_any b g off1 cap1 (R.drop k) 0 N w2 (unhide HR1) hln1 (by rw [List.length_drop]; omega)).mono ?_
            rintro e w3 ⟨rfl, hto2⟩
            have hx := ((unhide HR1).bys.keep hto2.2 (unhide HR1).ne).text N hln1 cap1
            have HX := hide hx
            have hO2 := hO1.trans hto2.2 (fun _ _ q => q)
            clear hx
            go_wp2_with (refine wpList_conv rfl 79 9 (.tmp 15) rfl _ _ (by rfl) (unhide HX) ?_)
            go_ret
            refine ⟨?_, ?_, hO2⟩
            · rw [unhide HS]; rfl
            · rw [unhide HK, ← List.drop_drop]; exact hto2.1
    · have he : rTextE most R = 1 := by simp [rTextE, hs]
      have hsd : decide (0 ≤ most ∧ most ≤ 65535) = false := by simpa using hs
      rw [he, rGo_bad (by decide), fine_bad (by decide)]
      have HLS := hide (lengthSize_any most w)
      have H := hide h
      clear hs he h
      go_enter Tryz.func94, Tryz.ntmps94
      go_wp2_with fail
      refine (unhide HLS).mono ?_
      rintro e w' ⟨rfl, rfl⟩
      go_wp2_with fail
      refine (bounded_any most w').mono ?_
      rintro e w'' ⟨rfl, rfl⟩
      rw [hsd]
      go_wp2
      go_ret
      exact ⟨rfl, RTo.err (E' := 1) (unhide H)⟩
  · rw [rGo_old hE, fine_old hE]
    rw [errV_ne hE] at c1
    have HLS := hide (lengthSize_any most w)
    have H := hide h
    clear h
    go_enter Tryz.func94, Tryz.ntmps94
    go_wp2_with fail
    refine (unhide HLS).mono ?_
    rintro e w' ⟨rfl, rfl⟩
    go_wp2
    go_ret
    exact ⟨rfl, RTo.same (unhide H)⟩
/-- What Done of a Reader says, where nothing was wrong. -/
def rDone (R : List UInt8) (E : Nat) : Nat := if E ≠ 0 then E else if R = [] then 0 else 23
set_option maxHeartbeats 1000000 in
set_option maxRecDepth 8000 in
theorem rdone_ok (b g off cap : Nat) (R : List UInt8) (w : World) (h : RAt b g off cap R 0 w) :
    Calls Tryz.prog 95 #[.pointer (some ⟨b, 0, none⟩)] w fun e w' => e = .returned (.int .i64 (rDone R 0)) ∧ Below w.heap.size w w' := by
  have c0 := h.c0
  have c1 := h.c1
  rw [errV_0] at c1
  have hlt := lt_of_row h.row
  clear h
  by_cases hR : R = []
  · subst hR
    go_enter Tryz.func95, Tryz.ntmps95
    go_wp2_with fail
    refine (as_nil _ _).mono ?_
    rintro e w1 ⟨rfl, rfl⟩
    go_wp2
    go_ret
    exact ⟨rfl, (Below.refl _ _).alloc (Nat.le_refl _) _⟩
  · have hpos : 0 < R.length := List.length_pos_iff.2 hR
    have HD : Hid (rDone R 0 = 23) := hide (by simp [rDone, hR])
    go_enter Tryz.func95, Tryz.ntmps95
    go_wp2_with fail
    refine (as_nil _ _).mono ?_
    rintro e w1 ⟨rfl, rfl⟩
    go_wp2
    go_ret
    exact ⟨by rw [unhide HD]; rfl, (Below.refl _ _).alloc (Nat.le_refl _) _⟩
end Go.Proofs.YtllialbdofklgaaGreatDoor
/- C8, of lists alone: what was laid down is read as it was. -/
namespace Go.Proofs.YtllialbdofklgaaGreatDoor
theorem nat_app (a b : List UInt8) : nat (a ++ b) = nat a * 256 ^ b.length + nat b := by
  have gen : ∀ (b : List UInt8) (n : Nat), b.foldl (fun n c => n * 256 + c.toNat) n = n * 256 ^ b.length + nat b := by
    intro b
    induction b with
    | nil => intro n; simp [nat]
    | cons c b ih =>
      intro n
      have h1 := ih (n * 256 + c.toNat)
      have h2 := ih c.toNat
      have e : nat (c :: b) = b.foldl (fun n c => n * 256 + c.toNat) c.toNat := by simp [nat]
      rw [List.foldl_cons, h1, e, h2, List.length_cons, Nat.pow_succ, Nat.add_mul, Nat.mul_assoc, Nat.mul_comm 256, ← Nat.add_assoc]
  unfold nat
  rw [List.foldl_append]
  exact gen b _
theorem be_succ (size n : Nat) : be (size + 1) n = be size (n / 256) ++ [UInt8.ofNat n] := by
  unfold be
  rw [List.range_succ, List.map_append]
  congr 1
  · apply List.map_congr_left
    intro i hi
    have hi' : i < size := List.mem_range.1 hi
    congr 1
    rw [show size + 1 - 1 - i = (size - 1 - i) + 1 by omega, Nat.pow_succ, Nat.mul_comm, ← Nat.div_div_eq_div_mul]
  · simp
theorem nat_be (size n : Nat) : nat (be size n) = n % 256 ^ size := by
  induction size generalizing n with
  | zero => simp [be, nat, Nat.mod_one]
  | succ size ih =>
    rw [be_succ, nat_app, ih]
    have e : nat [UInt8.ofNat n] = n % 256 := by simp [nat]
    rw [e]
    simp only [List.length_singleton, Nat.pow_one]
    rw [Nat.pow_succ, Nat.mul_comm (256 ^ size) 256, Nat.mod_mul]
    omega
theorem be_nat (l : List UInt8) : be l.length (nat l) = l := by
  suffices ∀ n : Nat, ∀ l : List UInt8, l.length = n → be n (nat l) = l from this l.length l rfl
  intro n
  induction n with
  | zero => intro l h; have := List.eq_nil_of_length_eq_zero h; subst this; rfl
  | succ n ih =>
    intro l h
    obtain ⟨m, c, rfl⟩ : ∃ m c, l = m ++ [c] := by
      refine ⟨l.take n, l[n]'(by omega), ?_⟩
      have := List.take_succ_eq_append_getElem (show n < l.length by omega)
      rw [List.take_of_length_le (by omega)] at this
      exact this
    have hm : m.length = n := by simpa using h
    have hc := c.toNat_lt
    rw [be_succ, nat_snoc]
    have e1 : (nat m * 256 + c.toNat) / 256 = nat m := by omega
    rw [e1, ih m hm]
    congr 2
    apply UInt8.toNat_inj.1
    rw [UInt8.toNat_ofNat']
    omega
end Go.Proofs.YtllialbdofklgaaGreatDoor
