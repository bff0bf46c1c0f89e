import Derived.Test.YtfaahjbkdlkmjaaDoorJdf
/- Jot: the parser's box; look, take, want, blanks. -/
namespace Go.Proofs.YtfaahjbkdlkmjaaDoor
open Go Go.RowKit Go.Lib
set_option linter.unusedVariables false
set_option linter.unusedSimpArgs false
/-- Of the old blocks none but b may have turned. -/
structure Onl (b : Nat) (w w' : World) : Prop where
  os : w'.os = w.os
  tape : w'.tape = w.tape
  output : w'.output = w.output
  size : w.heap.size ≤ w'.heap.size
  block : ∀ k, k < w.heap.size → k ≠ b → w'.heap[k]? = w.heap[k]?
theorem Onl.refl (b : Nat) (w : World) : Onl b w w := ⟨rfl, rfl, rfl, Nat.le_refl _, fun _ _ _ => rfl⟩
theorem Onl.trans {b : Nat} {x y z : World} (h1 : Onl b x y) (h2 : Onl b y z) : Onl b x z :=
  ⟨h2.os.trans h1.os, h2.tape.trans h1.tape, h2.output.trans h1.output, Nat.le_trans h1.size h2.size, fun k hk hp => (h2.block k (Nat.lt_of_lt_of_le hk h1.size) hp).trans (h1.block k hk hp)⟩
theorem Onl.of_below {b : Nat} {w w' : World} (h : Below w.heap.size w w') : Onl b w w' := ⟨h.os, h.tape, h.output, h.size, fun k hk _ => h.block k hk⟩
theorem Onl.below {b : Nat} {w w' : World} (h : Onl b w w') {B : Nat} (hB : B ≤ b) (hle : B ≤ w.heap.size) : Below B w w' :=
  ⟨h.os, h.tape, h.output, h.size, fun k hk => h.block k (by omega) (by omega)⟩
theorem Onl.drewN (b : Nat) (w : World) (q : Nat) : Onl b w (w.drewN q) := Onl.of_below (below_drewNq (Below.refl _ _) q)
theorem Onl.setCell (b i : Nat) (v : Value) (w : World) : Onl b w (w.setCell ⟨b, i, none⟩ v) :=
  ⟨rfl, rfl, rfl, by simp [World.setCell], fun k _ hp => heap_setCell_other w ⟨b, i, none⟩ k v hp⟩
theorem Onl.env {b : Nat} {w w' : World} (h : Onl b w w') (hE : Env w) (hb : 3 ≤ b) : Env w' := by
  have hlt := (Array.getElem?_eq_some_iff.1 hE.tab.choose_spec.choose_spec).1
  have c0 := hE.u8.1 0 (by omega)
  have d0 := (hE.u8.2 0 (by omega)).1
  have l1 := World.block_lt_of_cell? _ _ c0
  have l2 := World.block_lt_of_cell? _ _ d0
  have hbel : Below 3 w w' := h.below hb (by simp only at l2; omega)
  obtain ⟨T, fz, h1⟩ := hE.tab
  exact ⟨⟨fun c hc => (cell_keep hbel (by show 1 < 3; omega)).trans (hE.u8.1 c hc), fun i hi => ⟨(cell_keep hbel (by show 2 < 3; omega)).trans (hE.u8.2 i hi).1, (cell_keep hbel (by show 2 < 3; omega)).trans (hE.u8.2 i hi).2⟩⟩, T, fz, (hbel.block 0 (by omega)).trans h1⟩
/-- A parser: its text, and what is left of it. -/
structure RAt (b : Nat) (s r : Bs) (w : World) : Prop where
  row : ∃ p : Nat, w.heap[b]? = some (.cells #[S s, .int .i64 p] 50 (0, 0)) ∧ p ≤ s.length ∧ s.drop p = r
  le : s.length ≤ 4000
theorem RAt.drewN {b : Nat} {s r : Bs} {w : World} (h : RAt b s r w) (q : Nat) : RAt b s r (w.drewN q) := by
  obtain ⟨p, h1, h2, h3⟩ := h.row
  exact ⟨⟨p, by rw [show (w.drewN q).heap = w.heap from by induction q generalizing w with | zero => rfl | succ q ih => exact ih (w := w.drew) ⟨⟨p, h1, h2, h3⟩, h.le⟩ h1]; exact h1, h2, h3⟩, h.le⟩
theorem RAt.lt {b : Nat} {s r : Bs} {w : World} (h : RAt b s r w) : b < w.heap.size := by
  obtain ⟨p, h1, -⟩ := h.row
  exact (Array.getElem?_eq_some_iff.1 h1).1
theorem RAt.keep {b : Nat} {s r : Bs} {w w' : World} (h : RAt b s r w) (hb : Below w.heap.size w w') : RAt b s r w' := by
  obtain ⟨p, h1, h2, h3⟩ := h.row
  exact ⟨⟨p, (hb.block b h.lt).trans h1, h2, h3⟩, h.le⟩
theorem RAt.len {b : Nat} {s r : Bs} {w : World} (h : RAt b s r w) : r.length ≤ s.length := by
  obtain ⟨p, -, h2, h3⟩ := h.row
  rw [← h3]
  simp
theorem drew_add (w : World) (a : Nat) : ∀ (b : Nat), (w.drewN a).drewN b = w.drewN (a + b)
  | 0 => rfl
  | b + 1 => by
    show ((w.drewN a).drewN b).drew = (w.drewN (a + b)).drew
    rw [drew_add w a b]
theorem u8_eq {a b : UInt8} : ((a.toNat : Int) == (b.toNat : Int)) = decide (a = b) := by
  rw [Bool.eq_iff_iff]
  simp only [beq_iff_eq, decide_eq_true_eq]
  constructor
  · intro h
    exact UInt8.toNat_inj.1 (by omega)
  · rintro rfl; rfl
set_option maxHeartbeats 2000000 in
theorem look_any (b : Nat) (s r : Bs) (w : World) (h : RAt b s r w) :
    Calls Tryd.prog 40 #[.pointer (some ⟨b, 0, none⟩)] w fun e w' => e = .returned (.int .u8 ((r.headD 0).toNat : Int)) ∧ ∃ q, w' = w.drewN q := by
  obtain ⟨p, hr, hp, hd⟩ := h.row
  have c0 : w.cell? ⟨b, 0, none⟩ = some (S s) := by rw [Lib.cell_of_heap hr]; rfl
  have c1 : w.cell? ⟨b, 1, none⟩ = some (.int .i64 p) := by rw [Lib.cell_of_heap hr]; rfl
  have hle := h.le
  by_cases he : p = s.length
  · have he' : ((p : Int) == (s.length : Int)) = true := by rw [beq_iff_eq]; omega
    have hr0 : r = [] := by rw [← hd, he, List.drop_length]
    subst hr0
    clear h hr he hd
    go_enter Tryd.func40, Tryd.ntmps40
    go_upto_region 1 with fail
    go_quiet (fail)
    go_wp2
    go_ret
    exact ⟨rfl, nq, rfl⟩
  · have he' : ((p : Int) == (s.length : Int)) = false := by rw [beq_eq_false_iff_ne]; omega
    have hlt : p < s.length := by omega
    have hsz : p < (ByteArray.mk s.toArray).size := by rw [ba_len]; exact hlt
    have hpl : (p : Int) < (s.length : Int) := by omega
    have hg : (ByteArray.mk s.toArray)[p]'hsz = r.headD 0 := by
      show (s.toArray)[p]'_ = _
      rw [← hd, List.drop_eq_getElem_cons hlt]
      simp [List.getElem?_eq_getElem hlt]
    clear h hr he hd
    generalize r.headD 0 = c at *
    go_enter Tryd.func40, Tryd.ntmps40
    go_upto_region 1 with fail
    go_quiet (fail)
    go_upto_region 3 with fail
    go_quiet (fail)
    go_wp2
    go_ret
    exact ⟨rfl, _, drew_add w _ _⟩
theorem fail_any (E : Int) (b : Nat) (s r : Bs) (w : World) (h : RAt b s r w) :
    Calls Tryd.prog 30 #[.pointer (some ⟨b, 0, none⟩), I E] w fun e w' => e = pan E ((s.length : Int) - r.length) ∧ w' = w := by
  obtain ⟨p, hr, hp, hd⟩ := h.row
  have c1 : w.cell? ⟨b, 1, none⟩ = some (.int .i64 p) := by rw [Lib.cell_of_heap hr]; rfl
  have e : ((s.length : Int) - r.length) = p := by rw [← hd, List.length_drop]; omega
  rw [e]
  clear h hr hd e
  go_enter Tryd.func30, Tryd.ntmps30
  go_wp2
  exact ⟨rfl, rfl, rfl⟩
/-- What take comes to. -/
def tk (c : UInt8) (r : Bs) : Bs := if r.headD 0 = c then r.tail else r
set_option maxHeartbeats 2000000 in
theorem take_any (c : UInt8) (hc : c ≠ 0) (b : Nat) (s r : Bs) (w : World) (h : RAt b s r w) :
    Calls Tryd.prog 39 #[.pointer (some ⟨b, 0, none⟩), .int .u8 (c.toNat : Int)] w fun e w' => e = .returned (.bool (decide (r.headD 0 = c))) ∧ RAt b s (tk c r) w' ∧ Onl b w w' := by
  have HL := hide (look_any b s r w h)
  have H := hide h
  by_cases hh : r.headD 0 = c
  · have hne : (((r.headD 0).toNat : Int) != (c.toNat : Int)) = false := by
      rw [bne, u8_eq, decide_eq_true hh]; rfl
    have hr0 : r ≠ [] := by intro q; subst q; exact hc (by rw [← hh]; rfl)
    have hl0 := List.length_pos_iff.2 hr0
    rw [decide_eq_true hh]
    unfold tk
    rw [if_pos hh]
    clear h hh
    generalize (r.headD 0).toNat = hd0 at *
    generalize c.toNat = c0 at *
    go_enter Tryd.func39, Tryd.ntmps39
    go_wp2_with fail
    refine (unhide HL).mono ?_
    rintro e w1 ⟨rfl, q, rfl⟩
    have h1 := (unhide H).drewN q
    obtain ⟨p, hr, hp, hd⟩ := h1.row
    have hlen : r.length = s.length - p := by rw [← hd]; simp
    have d1 : (w.drewN q).cell? ⟨b, 1, none⟩ = some (.int .i64 p) := by rw [Lib.cell_of_heap hr]; rfl
    have z1 : (w.drewN q).frozen? ⟨b, 1, none⟩ = false := Lib.frozen_of_heap hr 1
    have hO := Onl.drewN b w q
    have hle := h1.le
    generalize w.drewN q = w2 at *
    have HR := hide hr
    have HD := hide hd
    clear hr hd h1 HL
    go_wp2_with fail
    go_ret
    refine ⟨rfl, ⟨⟨p + 1, ?_, by omega, ?_⟩, hle⟩, hO.trans (Onl.setCell b 1 _ w2)⟩
    · have := heap_setCell_same w2 b 1 _ 50 (.int .i64 ((p : Int) + 1)) (unhide HR)
      rw [this]
      rfl
    · rw [← unhide HD, List.tail_drop]
  · have hne : (((r.headD 0).toNat : Int) != (c.toNat : Int)) = true := by
      rw [bne, u8_eq, decide_eq_false hh]; rfl
    rw [decide_eq_false hh]
    unfold tk
    rw [if_neg hh]
    clear h hh
    generalize (r.headD 0).toNat = hd0 at *
    generalize c.toNat = c0 at *
    go_enter Tryd.func39, Tryd.ntmps39
    go_wp2_with fail
    refine (unhide HL).mono ?_
    rintro e w1 ⟨rfl, q, rfl⟩
    go_wp2_with fail
    go_ret
    exact ⟨rfl, (unhide H).drewN q, Onl.drewN b w q⟩
end Go.Proofs.YtfaahjbkdlkmjaaDoor
