import Derived.Test.YtbeionikiiccpaaDoorHcon
import Derived.Test.YtbeionikiiccpaaDoorHinv
namespace Go.Proofs.YtbeionikiiccpaaDoor
open Go.RowKit
open Sha
set_option maxRecDepth 8000
set_option maxRecDepth 100000 in
def fr (s : St) (b : List UInt8) (B : Nat) (v5 v6 v7 v12 v13 v14 v15 : Value) : Act := ⟨#[Value.agg (cU s.l), Value.agg (cB b), Value.pointer (some ⟨B, 0, none⟩), Value.pointer (some ⟨B + 1, 0, none⟩), Value.pointer (some ⟨B + 1 + 1, 0, none⟩), v5, v6, v7, undef, undef, undef, undef, v12, v13, v14, v15, undef, undef, undef, undef, undef, undef, undef, undef, undef, undef, undef, undef, undef, undef, undef, undef, undef, undef, undef, undef, undef, undef, undef, undef, undef, undef, undef, undef, undef, undef, undef, undef, undef, undef, undef, undef, undef, undef, undef, undef, undef, undef, undef, undef, undef, undef, undef, undef, undef, undef, undef, undef, undef, undef, undef, undef, undef, undef, undef, undef, undef, undef, undef, undef, undef, undef, undef, undef, undef, undef, undef, undef, undef, undef, undef, undef, undef, undef, undef, undef, undef, undef, undef, undef, undef, undef, undef, undef, undef, undef, undef, undef, undef, undef, undef, undef, undef, undef, undef, undef, undef], []⟩
/-- What holds in the midst of the region, whichever operations came up. -/
structure MI (W : World) (s : St) (b : List UInt8) (L : Nat → Bool) (g5 g6 g7 : Nat) (v5 v6 v7 v12 v13 v14 v15 : Value) (w : World) : Prop where
  o0 : L 0 = true → v12 = .agg (cB b)
  o1 : L 1 = true → v13 = .agg (cU (ws b))
  o2 : L 2 = true → v14 = .agg (cU ks)
  o3 : L 3 = true → v15 = .agg (cU s.l)
  o4 : L 4 = true → v5 = .pointer (some ⟨g5, 0, none⟩) ∧ W.heap.size + 3 ≤ g5 ∧ ∃ c, c.size = 64 ∧ Row w g5 c 105 ∧ (L 7 = true → c = cU (ws b))
  o5 : L 5 = true → v6 = .pointer (some ⟨g6, 0, none⟩) ∧ W.heap.size + 3 ≤ g6 ∧ ∃ c, c.size = 64 ∧ Row w g6 c 105 ∧ (L 8 = true → c = cU ks)
  o6 : L 6 = true → v7 = .pointer (some ⟨g7, 0, none⟩) ∧ W.heap.size + 3 ≤ g7 ∧ ∃ c, c.size = 8 ∧ Row w g7 c 72 ∧ (L 9 = true → c = cU s.l)
  n1 : L 4 = true → L 5 = true → g5 ≠ g6
  n2 : L 4 = true → L 6 = true → g5 ≠ g7
  n3 : L 5 = true → L 6 = true → g6 ≠ g7
  rs : Row w W.heap.size (cU s.l) 72
  rb : Row w (W.heap.size + 1) (cB b) 75
  rz : ∃ c, c.size = 8 ∧ Row w (W.heap.size + 1 + 1) c 72
  be : Below W.heap.size W w
  sz : W.heap.size + 3 ≤ w.heap.size
  k7 : L 7 = true → L 4 = true
  k8 : L 8 = true → L 5 = true
  k9 : L 9 = true → L 6 = true
def MX (W : World) (s : St) (b : List UInt8) (L : Nat → Bool) (a : Act) (w : World) : Prop :=
  ∃ g5 g6 g7 v5 v6 v7 v12 v13 v14 v15, MI W s b L g5 g6 g7 v5 v6 v7 v12 v13 v14 v15 w ∧ a = fr s b W.heap.size v5 v6 v7 v12 v13 v14 v15
theorem op_wp {P : Program} {ops : Array Oper} {Q : Exit → Act → World → Prop} {i : Nat} {o : Oper} {a : Act} {w : World} {K : Act → World → Prop} (ho : ops[i]? = some o) (hg : o.guard = none) (h : o.wp P a w K Q) : wpOp P ops Q i K a w := by
  unfold wpOp
  simp only [ho, Region.wanted, hg, if_true]
  exact .inl h
theorem info72 : (Tryd.prog.info? 72).map (·.size) = some 8 := by kernel_rfl
theorem info75 : (Tryd.prog.info? 75).map (·.size) = some 64 := by kernel_rfl
theorem sz65 (s : St) : (Tryd.prog.info? 72).map (·.size) = some (cU s.l).size := by rw [cU_size]; exact info72
theorem sz68 {l : List UInt8} (h : l.length = 64) : (Tryd.prog.info? 75).map (·.size) = some (cB l).size := by rw [cB_size, h]; exact info75

theorem MI.below {W w : World} {s : St} {b : List UInt8} {L : Nat → Bool} {g5 g6 g7 : Nat} {v5 v6 v7 v12 v13 v14 v15 : Value} (h : MI W s b L g5 g6 g7 v5 v6 v7 v12 v13 v14 v15 w) {w1 : World} (hb : Below w.heap.size w w1) : MI W s b L g5 g6 g7 v5 v6 v7 v12 v13 v14 v15 w1 := by
  refine ⟨h.o0, h.o1, h.o2, h.o3, ?_, ?_, ?_, h.n1, h.n2, h.n3, h.rs.below hb h.rs.lt, h.rb.below hb h.rb.lt, ?_, h.be.trans (hb.mono (by have := h.sz; omega)), Nat.le_trans h.sz hb.size, h.k7, h.k8, h.k9⟩
  · intro hl; obtain ⟨e, g, c, hc, r, q⟩ := h.o4 hl; exact ⟨e, g, c, hc, r.below hb r.lt, q⟩
  · intro hl; obtain ⟨e, g, c, hc, r, q⟩ := h.o5 hl; exact ⟨e, g, c, hc, r.below hb r.lt, q⟩
  · intro hl; obtain ⟨e, g, c, hc, r, q⟩ := h.o6 hl; exact ⟨e, g, c, hc, r.below hb r.lt, q⟩
  · obtain ⟨c, hc, r⟩ := h.rz; exact ⟨c, hc, r.below hb r.lt⟩
theorem MI.l0 {W w : World} {s : St} {b : List UInt8} {L : Nat → Bool} {g5 g6 g7 : Nat} {v5 v6 v7 v12 v13 v14 v15 : Value} (h : MI W s b L g5 g6 g7 v5 v6 v7 v12 v13 v14 v15 w) : MI W s b (upd L 0) g5 g6 g7 v5 v6 v7 (.agg (cB b)) v13 v14 v15 w :=
  ⟨fun _ => rfl, h.o1, h.o2, h.o3, h.o4, h.o5, h.o6, h.n1, h.n2, h.n3, h.rs, h.rb, h.rz, h.be, h.sz, h.k7, h.k8, h.k9⟩
theorem MI.l1 {W w : World} {s : St} {b : List UInt8} {L : Nat → Bool} {g5 g6 g7 : Nat} {v5 v6 v7 v12 v13 v14 v15 : Value} (h : MI W s b L g5 g6 g7 v5 v6 v7 v12 v13 v14 v15 w) : MI W s b (upd L 1) g5 g6 g7 v5 v6 v7 v12 (.agg (cU (ws b))) v14 v15 w :=
  ⟨h.o0, fun _ => rfl, h.o2, h.o3, h.o4, h.o5, h.o6, h.n1, h.n2, h.n3, h.rs, h.rb, h.rz, h.be, h.sz, h.k7, h.k8, h.k9⟩
theorem MI.l2 {W w : World} {s : St} {b : List UInt8} {L : Nat → Bool} {g5 g6 g7 : Nat} {v5 v6 v7 v12 v13 v14 v15 : Value} (h : MI W s b L g5 g6 g7 v5 v6 v7 v12 v13 v14 v15 w) : MI W s b (upd L 2) g5 g6 g7 v5 v6 v7 v12 v13 (.agg (cU ks)) v15 w :=
  ⟨h.o0, h.o1, fun _ => rfl, h.o3, h.o4, h.o5, h.o6, h.n1, h.n2, h.n3, h.rs, h.rb, h.rz, h.be, h.sz, h.k7, h.k8, h.k9⟩
theorem MI.l3 {W w : World} {s : St} {b : List UInt8} {L : Nat → Bool} {g5 g6 g7 : Nat} {v5 v6 v7 v12 v13 v14 v15 : Value} (h : MI W s b L g5 g6 g7 v5 v6 v7 v12 v13 v14 v15 w) : MI W s b (upd L 3) g5 g6 g7 v5 v6 v7 v12 v13 v14 (.agg (cU s.l)) w :=
  ⟨h.o0, h.o1, h.o2, fun _ => rfl, h.o4, h.o5, h.o6, h.n1, h.n2, h.n3, h.rs, h.rb, h.rz, h.be, h.sz, h.k7, h.k8, h.k9⟩
theorem MI.lt5 {W w : World} {s : St} {b : List UInt8} {L : Nat → Bool} {g5 g6 g7 : Nat} {v5 v6 v7 v12 v13 v14 v15 : Value} (h : MI W s b L g5 g6 g7 v5 v6 v7 v12 v13 v14 v15 w) (hl : L 5 = true) : g6 < w.heap.size := by obtain ⟨e, g, c, hc, r, q⟩ := h.o5 hl; exact r.lt
theorem MI.lt4 {W w : World} {s : St} {b : List UInt8} {L : Nat → Bool} {g5 g6 g7 : Nat} {v5 v6 v7 v12 v13 v14 v15 : Value} (h : MI W s b L g5 g6 g7 v5 v6 v7 v12 v13 v14 v15 w) (hl : L 4 = true) : g5 < w.heap.size := by obtain ⟨e, g, c, hc, r, q⟩ := h.o4 hl; exact r.lt
theorem MI.lt6 {W w : World} {s : St} {b : List UInt8} {L : Nat → Bool} {g5 g6 g7 : Nat} {v5 v6 v7 v12 v13 v14 v15 : Value} (h : MI W s b L g5 g6 g7 v5 v6 v7 v12 v13 v14 v15 w) (hl : L 6 = true) : g7 < w.heap.size := by obtain ⟨e, g, c, hc, r, q⟩ := h.o6 hl; exact r.lt
theorem alloc_below (w : World) (o : Obj) : Below w.heap.size w (w.alloc o) := (Below.refl _ _).alloc (Nat.le_refl _) o
theorem MI.l4 {W w : World} {s : St} {b : List UInt8} {L : Nat → Bool} {g5 g6 g7 : Nat} {v5 v6 v7 v12 v13 v14 v15 : Value} (h : MI W s b L g5 g6 g7 v5 v6 v7 v12 v13 v14 v15 w) (c : Array Value) (hc : c.size = 64) (hl : L 4 = false) : MI W s b (upd L 4) w.heap.size g6 g7 (.pointer (some ⟨w.heap.size, 0, none⟩)) v6 v7 v12 v13 v14 v15 (w.alloc (.cells c 105)) := by
  have h7 : L 7 = false := by cases q : L 7 with | false => rfl | true => rw [h.k7 q] at hl; cases hl
  have k := h.below (alloc_below w (.cells c 105))
  exact ⟨k.o0, k.o1, k.o2, k.o3, fun _ => ⟨rfl, h.sz, c, hc, Row.new w c 105, fun q => by rw [show upd L 4 7 = L 7 from rfl, h7] at q; cases q⟩, k.o5, k.o6, fun _ q => Nat.ne_of_gt (h.lt5 q), fun _ q => Nat.ne_of_gt (h.lt6 q), k.n3, k.rs, k.rb, k.rz, k.be, k.sz, fun _ => rfl, k.k8, k.k9⟩
theorem MI.l5 {W w : World} {s : St} {b : List UInt8} {L : Nat → Bool} {g5 g6 g7 : Nat} {v5 v6 v7 v12 v13 v14 v15 : Value} (h : MI W s b L g5 g6 g7 v5 v6 v7 v12 v13 v14 v15 w) (c : Array Value) (hc : c.size = 64) (hl : L 5 = false) : MI W s b (upd L 5) g5 w.heap.size g7 v5 (.pointer (some ⟨w.heap.size, 0, none⟩)) v7 v12 v13 v14 v15 (w.alloc (.cells c 105)) := by
  have h7 : L 8 = false := by cases q : L 8 with | false => rfl | true => rw [h.k8 q] at hl; cases hl
  have k := h.below (alloc_below w (.cells c 105))
  exact ⟨k.o0, k.o1, k.o2, k.o3, k.o4, fun _ => ⟨rfl, h.sz, c, hc, Row.new w c 105, fun q => by rw [show upd L 5 8 = L 8 from rfl, h7] at q; cases q⟩, k.o6, fun q _ => Nat.ne_of_lt (h.lt4 q), k.n2, fun _ q => Nat.ne_of_gt (h.lt6 q), k.rs, k.rb, k.rz, k.be, k.sz, k.k7, fun _ => rfl, k.k9⟩
theorem MI.l6 {W w : World} {s : St} {b : List UInt8} {L : Nat → Bool} {g5 g6 g7 : Nat} {v5 v6 v7 v12 v13 v14 v15 : Value} (h : MI W s b L g5 g6 g7 v5 v6 v7 v12 v13 v14 v15 w) (c : Array Value) (hc : c.size = 8) (hl : L 6 = false) : MI W s b (upd L 6) g5 g6 w.heap.size v5 v6 (.pointer (some ⟨w.heap.size, 0, none⟩)) v12 v13 v14 v15 (w.alloc (.cells c 72)) := by
  have h7 : L 9 = false := by cases q : L 9 with | false => rfl | true => rw [h.k9 q] at hl; cases hl
  have k := h.below (alloc_below w (.cells c 72))
  exact ⟨k.o0, k.o1, k.o2, k.o3, k.o4, k.o5, fun _ => ⟨rfl, h.sz, c, hc, Row.new w c 72, fun q => by rw [show upd L 6 9 = L 9 from rfl, h7] at q; cases q⟩, k.n1, fun q _ => Nat.ne_of_lt (h.lt4 q), fun q _ => Nat.ne_of_lt (h.lt5 q), k.rs, k.rb, k.rz, k.be, k.sz, k.k7, k.k8, fun _ => rfl⟩
theorem MI.l7 {W w : World} {s : St} {b : List UInt8} {L : Nat → Bool} {g5 g6 g7 : Nat} {v5 v6 v7 v12 v13 v14 v15 : Value} (h : MI W s b L g5 g6 g7 v5 v6 v7 v12 v13 v14 v15 w) (h4 : L 4 = true) : MI W s b (upd L 7) g5 g6 g7 v5 v6 v7 v12 v13 v14 v15 (w.setRow g5 (cU (ws b))) := by
  obtain ⟨e, g, c, hc, r, q⟩ := h.o4 h4
  refine ⟨h.o0, h.o1, h.o2, h.o3, ?_, ?_, ?_, h.n1, h.n2, h.n3, h.rs.setRow_other _ _ (by omega), h.rb.setRow_other _ _ (by omega), ?_, below_row h.be (by omega) _, by rw [setRow_size]; exact h.sz, fun _ => h4, h.k8, h.k9⟩
  · intro _; exact ⟨e, g, _, by rw [cU_size]; exact w2_len b 48, r.setRow _, fun _ => rfl⟩
  · intro hl; obtain ⟨e', g', c', hc', r', q'⟩ := h.o5 hl; exact ⟨e', g', c', hc', r'.setRow_other _ _ (Ne.symm (h.n1 h4 hl)), q'⟩
  · intro hl; obtain ⟨e', g', c', hc', r', q'⟩ := h.o6 hl; exact ⟨e', g', c', hc', r'.setRow_other _ _ (Ne.symm (h.n2 h4 hl)), q'⟩
  · obtain ⟨c', hc', r'⟩ := h.rz; exact ⟨c', hc', r'.setRow_other _ _ (by omega)⟩
theorem MI.l8 {W w : World} {s : St} {b : List UInt8} {L : Nat → Bool} {g5 g6 g7 : Nat} {v5 v6 v7 v12 v13 v14 v15 : Value} (h : MI W s b L g5 g6 g7 v5 v6 v7 v12 v13 v14 v15 w) (h5 : L 5 = true) : MI W s b (upd L 8) g5 g6 g7 v5 v6 v7 v12 v13 v14 v15 (w.setRow g6 (cU ks)) := by
  obtain ⟨e, g, c, hc, r, q⟩ := h.o5 h5
  refine ⟨h.o0, h.o1, h.o2, h.o3, ?_, ?_, ?_, h.n1, h.n2, h.n3, h.rs.setRow_other _ _ (by omega), h.rb.setRow_other _ _ (by omega), ?_, below_row h.be (by omega) _, by rw [setRow_size]; exact h.sz, h.k7, fun _ => h5, h.k9⟩
  · intro hl; obtain ⟨e', g', c', hc', r', q'⟩ := h.o4 hl; exact ⟨e', g', c', hc', r'.setRow_other _ _ (h.n1 hl h5), q'⟩
  · intro _; exact ⟨e, g, _, rfl, r.setRow _, fun _ => rfl⟩
  · intro hl; obtain ⟨e', g', c', hc', r', q'⟩ := h.o6 hl; exact ⟨e', g', c', hc', r'.setRow_other _ _ (Ne.symm (h.n3 h5 hl)), q'⟩
  · obtain ⟨c', hc', r'⟩ := h.rz; exact ⟨c', hc', r'.setRow_other _ _ (by omega)⟩
theorem MI.l9 {W w : World} {s : St} {b : List UInt8} {L : Nat → Bool} {g5 g6 g7 : Nat} {v5 v6 v7 v12 v13 v14 v15 : Value} (h : MI W s b L g5 g6 g7 v5 v6 v7 v12 v13 v14 v15 w) (h6 : L 6 = true) : MI W s b (upd L 9) g5 g6 g7 v5 v6 v7 v12 v13 v14 v15 (w.setRow g7 (cU s.l)) := by
  obtain ⟨e, g, c, hc, r, q⟩ := h.o6 h6
  refine ⟨h.o0, h.o1, h.o2, h.o3, ?_, ?_, ?_, h.n1, h.n2, h.n3, h.rs.setRow_other _ _ (by omega), h.rb.setRow_other _ _ (by omega), ?_, below_row h.be (by omega) _, by rw [setRow_size]; exact h.sz, h.k7, h.k8, fun _ => h6⟩
  · intro hl; obtain ⟨e', g', c', hc', r', q'⟩ := h.o4 hl; exact ⟨e', g', c', hc', r'.setRow_other _ _ (h.n2 hl h6), q'⟩
  · intro hl; obtain ⟨e', g', c', hc', r', q'⟩ := h.o5 hl; exact ⟨e', g', c', hc', r'.setRow_other _ _ (h.n3 hl h6), q'⟩
  · intro _; exact ⟨e, g, _, rfl, r.setRow _, fun _ => rfl⟩
  · obtain ⟨c', hc', r'⟩ := h.rz; exact ⟨c', hc', r'.setRow_other _ _ (by omega)⟩
end Go.Proofs.YtbeionikiiccpaaDoor
