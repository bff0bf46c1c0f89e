import Derived.Test.YtmjaobddgaglhaaGreatDoorHfil
import Derived.Test.YtmjaobddgaglhaaGreatDoorZhmxa
namespace Go.Proofs.YtmjaobddgaglhaaGreatDoor
open Go.RowKit
open Sha
set_option maxRecDepth 8000
/-- The bytes of the first words. -/
def digk (s : St) (k : Nat) : List UInt8 := ((s.l.take k).map fun x => nb x.toNat 4).flatten
theorem digk_len (s : St) (k : Nat) (hk : k ≤ 8) : (digk s k).length ≤ 32 := by
  have : ∀ l : List UInt32, ((l.map fun x => nb x.toNat 4).flatten).length = 4 * l.length := by
    intro l
    induction l with
    | nil => rfl
    | cons x l ih =>
      have e4 : (nb x.toNat 4).length = 4 := by simp [nb]
      simp only [List.map_cons, List.flatten_cons, List.length_append, ih, e4, List.length_cons]; omega
  unfold digk
  rw [this]
  have := List.length_take_le k s.l
  omega
theorem digk_next (s : St) (k : Nat) (hk : k < 8) : digk s (k + 1) = digk s k ++ nb (s.l.getD k 0).toNat 4 := by
  unfold digk
  rw [List.take_succ_eq_append_getElem (show k < s.l.length from hk)]
  rw [List.map_append, List.flatten_append]
  simp [show k < s.l.length from hk]
theorem digk_all (s : St) : digk s 8 = dig s := by rfl
theorem builder_below {T e : TypeId} {B b : Nat} {bs : List Value} {w w' : World} (h : Lib.IsBuilder T e B b bs w) (hb : Below w.heap.size w w') : Lib.IsBuilder T e B b bs w' := by
  have one : ∀ p, Lib.BuilderAt T e B b p bs w → Lib.BuilderAt T e B b p bs w' := by
    intro p h
    have hlt := h.lt
    obtain ⟨hB, v, hbk, hown, hne⟩ := h
    refine ⟨hB, v, (hb.block b hlt).trans hbk, ⟨hown.1, ?_⟩, hne⟩
    rcases hown.2 with q | ⟨g, cap, cur, e1, e2, e3, r⟩
    · exact .inl q
    · exact .inr ⟨g, cap, cur, e1, e2, (hb.block g (Array.getElem?_eq_some_iff.1 e3).1).trans e3, r⟩
  exact h.imp (one _) (one _)
theorem builder_new (w : World) (o : Obj) : Lib.IsBuilder 205 5 w.heap.size (w.heap.size + 1) [] ((w.alloc o).alloc (.cells #[.pointer none, .slice none 0 0] 205)) := by
  refine .inl ⟨by omega, .slice none 0 0, ?_, ⟨rfl, .inl ⟨rfl, rfl⟩⟩, by simp [Value.ownBlock]⟩
  have := RowK.new (w.alloc o) #[.pointer none, .slice none 0 0] 205
  rw [World.size_alloc] at this
  exact this
theorem run_index (s : St) (k : Nat) (hk : k < 8) (w : World) : (Instr.index 168 (.agg (cU s.l)) (.int .i64 k)).run Tryz.prog w = .ok (.int .u32 (u (s.l.getD k 0))) w := by
  match k, hk with
  | 0, _ => rfl
  | 1, _ => rfl
  | 2, _ => rfl
  | 3, _ => rfl
  | 4, _ => rfl
  | 5, _ => rfl
  | 6, _ => rfl
  | 7, _ => rfl
theorem wpList_index {P : Program} {ops : Array Oper} {rest : List Oper} {o : Oper} {a : Act} {w : World} {Q : Exit → Act → World → Prop} (hgd : o.guard = none) (t : TypeId) (x y : Operand) (ho : o.op = .index t x y)
    (v i v' : Value) (hx : a.eval x = v) (hy : a.eval y = i) (hrun : (Instr.index t v i).run P w = .ok v' w)
    (h : wpList P ops Q rest (a.put o.dst v') w) : wpList P ops Q (o :: rest) a w :=
  wpList_plain hgd fun _ hK => by
    unfold Oper.wp execOp
    simp only [ho, hx, hy, Sem.run_bind, hrun, Result.andThen_ok]
    exact hK _ _ h
theorem u_toNat (x : UInt32) : u x = (x.toNat : Int) := rfl
theorem wrap_u (x : UInt32) : IntKind.u64.wrap (u x) = u x := by
  rw [IntKind.wrap_u64]
  exact Int.emod_eq_of_lt (u_lo x) (by have := u_hi x; omega)
set_option maxHeartbeats 1000000 in
set_option maxRecDepth 20000 in
theorem digest_any (s : St) (w : World) :
    Calls Tryz.prog 133 #[.agg (cU s.l)] w fun e w' => e = .returned (.string ⟨(dig s).toArray⟩) ∧ Below w.heap.size w w' := by
  have hr := RowK.new w (cU s.l) 168
  go_enter Tryz.func133, Tryz.ntmps133
  go_wp2_with (refine wpList_load_row rfl 168 (.tmp 1) rfl w.heap.size (by rfl) 168 (cU s.l) (0, 0) _ (hr.alloc _) Tryz.underlying168 rfl (sz65 _) ?_)
  go_loopw [7] (fun i wr => ∃ k : Nat, k ≤ 8 ∧ i = .int .i64 k ∧ Lib.IsBuilder 205 5 w.heap.size (w.heap.size + 1) (Lib.byteCells (digk s k)) wr ∧ Below w.heap.size w wr) (fun i _ => 8 - (intOf i).toNat)
  case atStart => exact ⟨0, by omega, rfl, builder_new w _, ((Below.refl _ _).alloc (Nat.le_refl _) _).alloc (by simp) _⟩
  case round =>
    obtain ⟨k, hk, rfl, hI, hbe⟩ := hrel
    by_cases hlt : k < 8
    · have HI := hide hI
      clear hI
      have hrun := run_index s k hlt wr
      generalize hx : s.l.getD k 0 = x at hrun
      have HX := hide hx
      have HR := hide hrun
      clear hx hrun
      go_wp2_with (refine wpList_index rfl 168 (.tmp 6) (.tmp 7) rfl _ _ _ (by rfl) (by rfl) (unhide HR) ?_)
      rw [wrap_u]
      refine (number_int (u x) 4 x.toNat 4 (u_toNat x) (by omega) wr (by have := x.toNat_lt; omega) (by omega) (by omega)).mono ?_
      rintro e w1 ⟨rfl, hb1⟩
      have hI1 := hide (builder_below (unhide HI) hb1)
      have hbe1 := hbe.trans (hb1.mono hbe.size)
      clear HI hb1 hbe
      have hl := digk_len s k hk
      have e4 : (nb x.toNat 4).length = 4 := by simp [nb]
      go_wp2_with fail
      refine (Tryz.build_write w.heap.size (w.heap.size + 1) _ _ w1 (unhide hI1) (by simp [Lib.byteCells, ByteArray.size, e4]; omega) hbe1.size).mono ?_
      rintro e w2 ⟨rfl, hI2, hb2⟩
      have HI2 := hide hI2
      clear hI2 hI1
      go_wp2
      go_roundw
      case rel =>
        refine ⟨k + 1, by omega, by go_num, .inr ?_, hbe1.trans hb2⟩
        rw [digk_next s k hlt, unhide HX]
        have := unhide HI2
        simpa [Lib.byteCells, Lib.strCells] using this
      case measure => simp [intOf]; omega
    · have hk8 : k = 8 := by omega
      have hd : decide ((k : Int) < 8) = false := by simp; omega
      rw [hk8, digk_all] at hI
      have HI := hide hI
      clear hI hk8 hlt
      go_wp2_with fail
      refine (Tryz.build_string w.heap.size (w.heap.size + 1) (dig s) wr (unhide HI) hbe.size).mono ?_
      rintro e w1 ⟨rfl, hb1⟩
      go_wp2
      go_ret
      exact ⟨rfl, hbe.trans hb1⟩
end Go.Proofs.YtmjaobddgaglhaaGreatDoor
