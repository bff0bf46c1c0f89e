import Derived.Test.YtbeionikiiccpaaGreatDoorDsa
import Derived.Lib.BufSteps
namespace Go.Proofs.YtbeionikiiccpaaGreatDoor
open Go.RowKit Go.Lib
theorem ret_str {a b : List UInt8} (h : a = b) : Ending.returned (.string ⟨a.toArray⟩) = .returned (.string ⟨b.toArray⟩) := by rw [h]
def B (c : UInt8) : Value := .int .u8 (c.toNat : Int)
theorem ofInt_i64 (a : Nat) (ha : a < 9223372036854775808) : (BitVec.ofInt 64 (a : Int)).toNat = a := by
  rw [BitVec.toNat_ofInt]; omega
theorem i64_and_nat (a b : Nat) (ha : a < 9223372036854775808) (hb : b < 9223372036854775808) : bits .and .i64 (a : Int) (b : Int) = ((a &&& b : Nat) : Int) := by
  have hx : a &&& b < 2 ^ 63 := Nat.and_lt_two_pow a hb
  have h1 := ofInt_i64 a ha
  have h2 := ofInt_i64 b hb
  have hb' : bits .and .i64 (a : Int) (b : Int) = IntKind.i64.wrap (((BitVec.ofInt 64 (a : Int)) &&& (BitVec.ofInt 64 (b : Int))).toNat : Int) := rfl
  rw [hb', BitVec.toNat_and, h1, h2, IntKind.wrap_i64]; omega
theorem i64_or_nat (a b : Nat) (ha : a < 9223372036854775808) (hb : b < 9223372036854775808) : bits .or .i64 (a : Int) (b : Int) = ((a ||| b : Nat) : Int) := by
  have hx : a ||| b < 2 ^ 63 := Nat.or_lt_two_pow ha hb
  have h1 := ofInt_i64 a ha
  have h2 := ofInt_i64 b hb
  have hb' : bits .or .i64 (a : Int) (b : Int) = IntKind.i64.wrap (((BitVec.ofInt 64 (a : Int)) ||| (BitVec.ofInt 64 (b : Int))).toNat : Int) := rfl
  rw [hb', BitVec.toNat_or, h1, h2, IntKind.wrap_i64]; omega
/-- Bits that stand behind others. -/
theorem or_add (k a b : Nat) (hb : b < 2 ^ k) (ha : a * 2 ^ k + b < 9223372036854775808) : bits .or .i64 ((a : Int) * 2 ^ k) (b : Int) = ((a * 2 ^ k + b : Nat) : Int) := by
  have e : ((a : Int) * 2 ^ k) = ((a * 2 ^ k : Nat) : Int) := by push_cast; rfl
  rw [e, i64_or_nat _ _ (by omega) (by omega)]
  congr 1
  rw [← Nat.shiftLeft_eq, Nat.shiftLeft_add_eq_or_of_lt hb]
theorem and_mod (k a : Nat) (hk : k < 63) (ha : a < 9223372036854775808) : bits .and .i64 (a : Int) ((2 : Int) ^ k - 1) = ((a % 2 ^ k : Nat) : Int) := by
  have h1 : 0 < 2 ^ k := Nat.two_pow_pos k
  have h2 : 2 ^ k < 2 ^ 63 := Nat.pow_lt_pow_right (by decide) hk
  have e : ((2 : Int) ^ k - 1) = ((2 ^ k - 1 : Nat) : Int) := by
    rw [Int.ofNat_sub h1]; push_cast; rfl
  rw [e, i64_and_nat _ _ ha (by omega), Nat.and_two_pow_sub_one_eq_mod]
theorem wrap_c (c : UInt8) : wrap64 (c.toNat : Int) = (c.toNat : Int) := IntWalk.wrap64_in _ (by have := c.toNat_lt; omega)
/-- Bytes in memory of one's own, that may be made longer. -/
def Own (base : Nat) (v : Value) (X : List UInt8) (W0 w : World) : Prop := OwnBuf base 5 v X.length (X.map B) W0 w
theorem Own.nil (w : World) : Own w.heap.size (.slice none 0 0) [] w w := ⟨World.ownsRowF_nil _ _ _ _, Below.refl _ _, Nat.le_refl _⟩
theorem Own.drewN {base : Nat} {v : Value} {X : List UInt8} {W0 w : World} (h : Own base v X W0 w) (q : Nat) : Own base v X W0 (w.drewN q) := OwnBuf.drewN h q
theorem Own.alloc {base : Nat} {v : Value} {X : List UInt8} {W0 w : World} (h : Own base v X W0 w) (o : Obj) : Own base v X W0 (w.alloc o) := OwnBuf.alloc h o
theorem push {ops : Array Oper} {rest : List Oper} {o : Oper} {a : Act} {Q : Exit → Act → World → Prop} (hgd : o.guard = none) (s x : Operand)
    (ho : o.op = .call { callee := .builtin .append, args := #[s, x], argTypes := #[49, 49] })
    (base : Nat) (v : Value) (X : List UInt8) (hs : a.eval s = v) (W0 w0 : World) (ci : Int) (c : UInt8) (hci : ci = (c.toNat : Int)) (hb : Own base v X W0 w0)
    (hx : a.eval x = .slice (some ⟨w0.heap.size, 0, none⟩) 1 1) (hlen : X.length + 1 ≤ 140737488355328)
    (h : ∀ v' w', Own base v' (X ++ [c]) W0 w' → wpList Tryz.prog ops Q rest (a.put o.dst v') w') : wpList Tryz.prog ops Q (o :: rest) a (w0.alloc (.cells #[.int .u8 ci] 5)) := by
  obtain ⟨i0, hi, hz0, hz1, hz2⟩ := info_parts info5
  refine wpList_append_byte hgd s x 49 ho base 5 i0 Tryz.underlying49 hi hz0 hz1 hz2 v X.length (X.map B) hs W0 w0 ci hb hx hlen ?_
  intro v' w' hb'
  refine h v' w' ?_
  subst hci
  unfold Own
  rw [List.length_append, List.map_append]
  exact hb'
theorem pushText {ops : Array Oper} {rest : List Oper} {o : Oper} {a : Act} {Q : Exit → Act → World → Prop} {w : World} (hgd : o.guard = none) (sl x : Operand)
    (ho : o.op = .call { callee := .builtin .append, args := #[sl, x], argTypes := #[49, 9] })
    (base : Nat) (v : Value) (X : List UInt8) (hs : a.eval sl = v) (W0 : World) (hb : Own base v X W0 w) (s : List UInt8) (hx : a.eval x = .string ⟨s.toArray⟩) (hlen : X.length + s.length ≤ 140737488355328)
    (h : ∀ v' w', Own base v' (X ++ s) W0 w' → wpList Tryz.prog ops Q rest (a.put o.dst v') w') : wpList Tryz.prog ops Q (o :: rest) a w := by
  obtain ⟨i0, hi, hz0, hz1, hz2⟩ := info_parts info5
  have hsz : (ByteArray.mk s.toArray).size = s.length := by simp [ByteArray.size]
  refine wpList_append_text hgd sl x 49 9 ho base 5 i0 Tryz.underlying49 Tryz.underlying9 hi hz0 hz1 hz2 v X.length (X.map B) hs W0 hb ⟨s.toArray⟩ hx (by rw [hsz]; exact hlen) ?_
  intro v' w' hb'
  refine h v' w' ?_
  unfold Own
  rw [List.length_append, List.map_append]
  rw [hsz] at hb'
  have e : strCells ⟨s.toArray⟩ = s.map B := by
    simp [strCells, B]
  rw [e] at hb'
  exact hb'
theorem wpList_conv {P : Program} {ops : Array Oper} {rest : List Oper} {o : Oper} {a : Act} {w : World} {Q : Exit → Act → World → Prop} (hgd : o.guard = none) (src dst : TypeId) (x : Operand) (ho : o.op = .convert src dst x)
    (v v' : Value) (hx : a.eval x = v) (hrun : (convert src dst v).run P w = .ok v' w)
    (h : wpList P ops Q rest (a.put o.dst v') w) : wpList P ops Q (o :: rest) a w :=
  wpList_plain hgd fun _ hK => by
    unfold Oper.wp execOp
    simp only [ho, hx, Sem.run_bind, hrun, Result.andThen_ok]
    exact hK _ _ h
theorem fold_push (l : List UInt8) (r : ByteArray) : (l.map fun c => (c.toNat : Int)).foldl (fun r n => r.push (UInt8.ofNat n.toNat)) r = ⟨r.data ++ l.toArray⟩ := by
  induction l generalizing r with
  | nil => simp
  | cons c l ih =>
    simp only [List.map_cons, List.foldl_cons, ih]
    simp [ByteArray.push]
/-- What lies in memory as bytes is the text of them. -/
theorem run_text (w : World) (g o len cap : Nat) (l : List UInt8) (hl : l.length = len) (h : ∀ j, j < len → w.cell? ⟨g, o + j, none⟩ = some (.int .u8 ((l.getD j 0).toNat : Int))) :
    (convert 49 9 (.slice (some ⟨g, o, none⟩) len cap)).run Tryz.prog w = .ok (.string ⟨l.toArray⟩) w := by
  rw [run_convert_bytes_string w 49 9 5 _ _ _ Tryz.underlying49 Tryz.underlying5 Tryz.underlying9]
  have hload : (loadCells ⟨g, o, none⟩ len).run Tryz.prog w = .ok ((l.map fun c => (c.toNat : Int)).map (Value.int .u8)).toArray w := by
    have := run_loadCells_list (P := Tryz.prog) w ⟨g, o, none⟩ ((l.map fun c => (c.toNat : Int)).map (Value.int .u8)) (fun j v hv => by
      have hadd : (⟨g, o, none⟩ : Addr).add j = ⟨g, o + j, none⟩ := by unfold Addr.add; split <;> simp_all
      rw [hadd]
      have hj : j < len := by
        have := (List.getElem?_eq_some_iff.1 hv).1
        simpa [hl] using this
      rw [h j hj, ← hv]
      simp [List.getElem?_map, List.getElem?_eq_getElem (by omega : j < l.length)])
    simpa [hl] using this
  rw [run_bytesToString w _ _ _ _ hload, fold_push]
  simp
theorem run_text_nil (w : World) : (convert 49 9 (.slice none 0 0)).run Tryz.prog w = .ok (.string ⟨(([] : List UInt8)).toArray⟩) w := by kernel_rfl
theorem Own.text {base : Nat} {v : Value} {X : List UInt8} {W0 w : World} (h : Own base v X W0 w) : (convert 49 9 v).run Tryz.prog w = .ok (.string ⟨X.toArray⟩) w := by
  have hc := fun {g : Nat} (hg : v.ownBlock = some g) => h.1.cells hg
  rcases h.1.2 with ⟨e, q⟩ | ⟨g, cap, cur, fz, e1, e2⟩
  · subst e
    have : X = [] := List.eq_nil_of_length_eq_zero q
    subst this
    exact run_text_nil w
  · subst e1
    refine run_text w g 0 X.length cap X rfl ?_
    intro j hj
    rw [Nat.zero_add]
    have := hc (g := g) rfl j (B (X.getD j 0)) (by simp [hj])
    have hadd : (⟨g, 0, none⟩ : Addr).add j = ⟨g, j, none⟩ := by unfold Addr.add; split <;> simp_all
    rw [hadd] at this
    exact this
theorem Own.len {base : Nat} {v : Value} {X : List UInt8} {W0 w : World} (h : Own base v X W0 w) : (∃ p cap, v = .slice p X.length cap) := by
  rcases h.1.2 with ⟨e, q⟩ | ⟨g, cap, cur, fz, e1, e2⟩
  · exact ⟨none, 0, by rw [e, q]⟩
  · exact ⟨_, cap, e1⟩
/-- make([]byte, 0, n). -/
theorem makeBuf {ops : Array Oper} {rest : List Oper} {o : Oper} {a : Act} {w : World} {Q : Exit → Act → World → Prop} (hgd : o.guard = none) (l c : Operand) (hop : o.op = Op.makeSlice 49 l c)
    (C : Int) (n : Nat) (hl : a.eval l = .int .i64 0) (hc : a.eval c = .int .i64 C) (hC : C = (n : Int)) (hn : n ≤ 140737488355328)
    (h : ∀ w' v, Own w.heap.size v [] w w' → wpList Tryz.prog ops Q rest (a.put o.dst v) w') : wpList Tryz.prog ops Q (o :: rest) a w := by
  obtain ⟨i0, hi, hz0, hz1, hz2⟩ := info_parts info5
  refine wpList_make_own w hgd l c 49 hop w.heap.size 5 i0 (.int .u8 0) 1 Tryz.underlying49 hi hz0 hz1 .i64 .i64 C n hl hc hC (by rw [hz2]; omega) (by unfold maxLen; omega) (Nat.le_refl _) ?_
  intro w' ho hg
  exact h w' _ ⟨World.ownsRowF_of ho, (Below.refl _ _).grown hg (Nat.le_refl _) (fun k e => by cases e), hg.size⟩
theorem take_snoc (l : List UInt8) (k : Nat) (h : k < l.length) : l.take (k + 1) = l.take k ++ [l[k]] := List.take_succ_eq_append_getElem h
end Go.Proofs.YtbeionikiiccpaaGreatDoor
