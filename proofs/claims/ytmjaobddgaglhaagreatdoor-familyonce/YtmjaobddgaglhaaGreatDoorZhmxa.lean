import Derived.Test.YtmjaobddgaglhaaGreatDoorZhwor
import Derived.Test.YtmjaobddgaglhaaGreatDoorZdsa
namespace Go.Proofs.YtmjaobddgaglhaaGreatDoor
open Go.RowKit
open Sha
set_option maxRecDepth 8000
set_option maxRecDepth 100000 in
def fr (s : St) (b : List UInt8) (B : Nat) (v5 v6 v7 v12 v13 v14 v15 : Value) : Act := ⟨#[Value.agg (cU s.l), Value.agg (cB b), Value.pointer (some ⟨B, 0, none⟩), Value.pointer (some ⟨B + 1, 0, none⟩), Value.pointer (some ⟨B + 1 + 1, 0, none⟩), v5, v6, v7, undef, undef, undef, undef, v12, v13, v14, v15, undef, undef, undef, undef, undef, undef, undef, undef, undef, undef, undef, undef, undef, undef, undef, undef, undef, undef, undef, undef, undef, undef, undef, undef, undef, undef, undef, undef, undef, undef, undef, undef, undef, undef, undef, undef, undef, undef, undef, undef, undef, undef, undef, undef, undef, undef, undef, undef, undef, undef, undef, undef, undef, undef, undef, undef, undef, undef, undef, undef, undef, undef, undef, undef, undef, undef, undef, undef, undef, undef, undef, undef, undef, undef, undef, undef, undef, undef, undef, undef, undef, undef, undef, undef, undef, undef, undef, undef, undef, undef, undef, undef, undef, undef, undef, undef, undef, undef, undef, undef, undef], []⟩
/-- What holds in the midst of the region, whichever operations came up. -/
structure MI (W : World) (s : St) (b : List UInt8) (L : Nat → Bool) (g5 g6 g7 : Nat) (v5 v6 v7 v12 v13 v14 v15 : Value) (w : World) : Prop where
  o0 : L 0 = true → v12 = .agg (cB b)
  o1 : L 1 = true → v13 = .agg (cU (ws b))
  o2 : L 2 = true → v14 = .agg (cU ks)
  o3 : L 3 = true → v15 = .agg (cU s.l)
  o4 : L 4 = true → v5 = .pointer (some ⟨g5, 0, none⟩) ∧ W.heap.size + 3 ≤ g5 ∧ ∃ c, c.size = 64 ∧ RowK w g5 c 196 ∧ (L 7 = true → c = cU (ws b))
  o5 : L 5 = true → v6 = .pointer (some ⟨g6, 0, none⟩) ∧ W.heap.size + 3 ≤ g6 ∧ ∃ c, c.size = 64 ∧ RowK w g6 c 196 ∧ (L 8 = true → c = cU ks)
  o6 : L 6 = true → v7 = .pointer (some ⟨g7, 0, none⟩) ∧ W.heap.size + 3 ≤ g7 ∧ ∃ c, c.size = 8 ∧ RowK w g7 c 168 ∧ (L 9 = true → c = cU s.l)
  n1 : L 4 = true → L 5 = true → g5 ≠ g6
  n2 : L 4 = true → L 6 = true → g5 ≠ g7
  n3 : L 5 = true → L 6 = true → g6 ≠ g7
  rs : RowK w W.heap.size (cU s.l) 168
  rb : RowK w (W.heap.size + 1) (cB b) 171
  rz : ∃ c, c.size = 8 ∧ RowK w (W.heap.size + 1 + 1) c 168
  be : Below W.heap.size W w
  sz : W.heap.size + 3 ≤ w.heap.size
  k7 : L 7 = true → L 4 = true
  k8 : L 8 = true → L 5 = true
  k9 : L 9 = true → L 6 = true
def MX (W : World) (s : St) (b : List UInt8) (L : Nat → Bool) (a : Act) (w : World) : Prop :=
  ∃ g5 g6 g7 v5 v6 v7 v12 v13 v14 v15, MI W s b L g5 g6 g7 v5 v6 v7 v12 v13 v14 v15 w ∧ a = fr s b W.heap.size v5 v6 v7 v12 v13 v14 v15
theorem op_wp {P : Program} {ops : Array Oper} {Q : Exit → Act → World → Prop} {i : Nat} {o : Oper} {a : Act} {w : World} {K : Act → World → Prop} (ho : ops[i]? = some o) (hg : o.guard = none) (h : o.wp P a w K Q) : wpOp P ops Q i K a w := by
  unfold wpOp
  simp only [ho, Region.wanted, hg, if_true]
  exact .inl h
theorem info168 : (Tryz.prog.info? 168).map (·.size) = some 8 := by kernel_rfl
theorem info171 : (Tryz.prog.info? 171).map (·.size) = some 64 := by kernel_rfl
theorem sz65 (s : St) : (Tryz.prog.info? 168).map (·.size) = some (cU s.l).size := by rw [cU_size]; exact info168
theorem sz68 {l : List UInt8} (h : l.length = 64) : (Tryz.prog.info? 171).map (·.size) = some (cB l).size := by rw [cB_size, h]; exact info171

theorem MI.below {W w : World} {s : St} {b : List UInt8} {L : Nat → Bool} {g5 g6 g7 : Nat} {v5 v6 v7 v12 v13 v14 v15 : Value} (h : MI W s b L g5 g6 g7 v5 v6 v7 v12 v13 v14 v15 w) {w1 : World} (hb : Below w.heap.size w w1) : MI W s b L g5 g6 g7 v5 v6 v7 v12 v13 v14 v15 w1 := by
  refine ⟨h.o0, h.o1, h.o2, h.o3, ?_, ?_, ?_, h.n1, h.n2, h.n3, h.rs.below hb h.rs.lt, h.rb.below hb h.rb.lt, ?_, h.be.trans (hb.mono (by have := h.sz; omega)), Nat.le_trans h.sz hb.size, h.k7, h.k8, h.k9⟩
  · intro hl; obtain ⟨e, g, c, hc, r, q⟩ := h.o4 hl; exact ⟨e, g, c, hc, r.below hb r.lt, q⟩
  · intro hl; obtain ⟨e, g, c, hc, r, q⟩ := h.o5 hl; exact ⟨e, g, c, hc, r.below hb r.lt, q⟩
  · intro hl; obtain ⟨e, g, c, hc, r, q⟩ := h.o6 hl; exact ⟨e, g, c, hc, r.below hb r.lt, q⟩
  · obtain ⟨c, hc, r⟩ := h.rz; exact ⟨c, hc, r.below hb r.lt⟩
theorem MI.l0 {W w : World} {s : St} {b : List UInt8} {L : Nat → Bool} {g5 g6 g7 : Nat} {v5 v6 v7 v12 v13 v14 v15 : Value} (h : MI W s b L g5 g6 g7 v5 v6 v7 v12 v13 v14 v15 w) : MI W s b (upd L 0) g5 g6 g7 v5 v6 v7 (.agg (cB b)) v13 v14 v15 w :=
  ⟨fun _ => rfl, h.o1, h.o2, h.o3, h.o4, h.o5, h.o6, h.n1, h.n2, h.n3, h.rs, h.rb, h.rz, h.be, h.sz, h.k7, h.k8, h.k9⟩
theorem MI.l1 {W w : World} {s : St} {b : List UInt8} {L : Nat → Bool} {g5 g6 g7 : Nat} {v5 v6 v7 v12 v13 v14 v15 : Value} (h : MI W s b L g5 g6 g7 v5 v6 v7 v12 v13 v14 v15 w) : MI W s b (upd L 1) g5 g6 g7 v5 v6 v7 v12 (.agg (cU (ws b))) v14 v15 w :=
  ⟨h.o0, fun _ => rfl, h.o2, h.o3, h.o4, h.o5, h.o6, h.n1, h.n2, h.n3, h.rs, h.rb, h.rz, h.be, h.sz, h.k7, h.k8, h.k9⟩
theorem MI.l2 {W w : World} {s : St} {b : List UInt8} {L : Nat → Bool} {g5 g6 g7 : Nat} {v5 v6 v7 v12 v13 v14 v15 : Value} (h : MI W s b L g5 g6 g7 v5 v6 v7 v12 v13 v14 v15 w) : MI W s b (upd L 2) g5 g6 g7 v5 v6 v7 v12 v13 (.agg (cU ks)) v15 w :=
  ⟨h.o0, h.o1, fun _ => rfl, h.o3, h.o4, h.o5, h.o6, h.n1, h.n2, h.n3, h.rs, h.rb, h.rz, h.be, h.sz, h.k7, h.k8, h.k9⟩
theorem MI.l3 {W w : World} {s : St} {b : List UInt8} {L : Nat → Bool} {g5 g6 g7 : Nat} {v5 v6 v7 v12 v13 v14 v15 : Value} (h : MI W s b L g5 g6 g7 v5 v6 v7 v12 v13 v14 v15 w) : MI W s b (upd L 3) g5 g6 g7 v5 v6 v7 v12 v13 v14 (.agg (cU s.l)) w :=
  ⟨h.o0, h.o1, h.o2, fun _ => rfl, h.o4, h.o5, h.o6, h.n1, h.n2, h.n3, h.rs, h.rb, h.rz, h.be, h.sz, h.k7, h.k8, h.k9⟩
theorem MI.lt5 {W w : World} {s : St} {b : List UInt8} {L : Nat → Bool} {g5 g6 g7 : Nat} {v5 v6 v7 v12 v13 v14 v15 : Value} (h : MI W s b L g5 g6 g7 v5 v6 v7 v12 v13 v14 v15 w) (hl : L 5 = true) : g6 < w.heap.size := by obtain ⟨e, g, c, hc, r, q⟩ := h.o5 hl; exact r.lt
theorem MI.lt4 {W w : World} {s : St} {b : List UInt8} {L : Nat → Bool} {g5 g6 g7 : Nat} {v5 v6 v7 v12 v13 v14 v15 : Value} (h : MI W s b L g5 g6 g7 v5 v6 v7 v12 v13 v14 v15 w) (hl : L 4 = true) : g5 < w.heap.size := by obtain ⟨e, g, c, hc, r, q⟩ := h.o4 hl; exact r.lt
theorem MI.lt6 {W w : World} {s : St} {b : List UInt8} {L : Nat → Bool} {g5 g6 g7 : Nat} {v5 v6 v7 v12 v13 v14 v15 : Value} (h : MI W s b L g5 g6 g7 v5 v6 v7 v12 v13 v14 v15 w) (hl : L 6 = true) : g7 < w.heap.size := by obtain ⟨e, g, c, hc, r, q⟩ := h.o6 hl; exact r.lt
theorem alloc_below (w : World) (o : Obj) : Below w.heap.size w (w.alloc o) := (Below.refl _ _).alloc (Nat.le_refl _) o
theorem MI.l4 {W w : World} {s : St} {b : List UInt8} {L : Nat → Bool} {g5 g6 g7 : Nat} {v5 v6 v7 v12 v13 v14 v15 : Value} (h : MI W s b L g5 g6 g7 v5 v6 v7 v12 v13 v14 v15 w) (c : Array Value) (hc : c.size = 64) (hl : L 4 = false) : MI W s b (upd L 4) w.heap.size g6 g7 (.pointer (some ⟨w.heap.size, 0, none⟩)) v6 v7 v12 v13 v14 v15 (w.alloc (.cells c 196)) := by
  have h7 : L 7 = false := by cases q : L 7 with | false => rfl | true => rw [h.k7 q] at hl; cases hl
  have k := h.below (alloc_below w (.cells c 196))
  exact ⟨k.o0, k.o1, k.o2, k.o3, fun _ => ⟨rfl, h.sz, c, hc, RowK.new w c 196, fun q => by rw [show upd L 4 7 = L 7 from rfl, h7] at q; cases q⟩, k.o5, k.o6, fun _ q => Nat.ne_of_gt (h.lt5 q), fun _ q => Nat.ne_of_gt (h.lt6 q), k.n3, k.rs, k.rb, k.rz, k.be, k.sz, fun _ => rfl, k.k8, k.k9⟩
theorem MI.l5 {W w : World} {s : St} {b : List UInt8} {L : Nat → Bool} {g5 g6 g7 : Nat} {v5 v6 v7 v12 v13 v14 v15 : Value} (h : MI W s b L g5 g6 g7 v5 v6 v7 v12 v13 v14 v15 w) (c : Array Value) (hc : c.size = 64) (hl : L 5 = false) : MI W s b (upd L 5) g5 w.heap.size g7 v5 (.pointer (some ⟨w.heap.size, 0, none⟩)) v7 v12 v13 v14 v15 (w.alloc (.cells c 196)) := by
  have h7 : L 8 = false := by cases q : L 8 with | false => rfl | true => rw [h.k8 q] at hl; cases hl
  have k := h.below (alloc_below w (.cells c 196))
  exact ⟨k.o0, k.o1, k.o2, k.o3, k.o4, fun _ => ⟨rfl, h.sz, c, hc, RowK.new w c 196, fun q => by rw [show upd L 5 8 = L 8 from rfl, h7] at q; cases q⟩, k.o6, fun q _ => Nat.ne_of_lt (h.lt4 q), k.n2, fun _ q => Nat.ne_of_gt (h.lt6 q), k.rs, k.rb, k.rz, k.be, k.sz, k.k7, fun _ => rfl, k.k9⟩
theorem MI.l6 {W w : World} {s : St} {b : List UInt8} {L : Nat → Bool} {g5 g6 g7 : Nat} {v5 v6 v7 v12 v13 v14 v15 : Value} (h : MI W s b L g5 g6 g7 v5 v6 v7 v12 v13 v14 v15 w) (c : Array Value) (hc : c.size = 8) (hl : L 6 = false) : MI W s b (upd L 6) g5 g6 w.heap.size v5 v6 (.pointer (some ⟨w.heap.size, 0, none⟩)) v12 v13 v14 v15 (w.alloc (.cells c 168)) := by
  have h7 : L 9 = false := by cases q : L 9 with | false => rfl | true => rw [h.k9 q] at hl; cases hl
  have k := h.below (alloc_below w (.cells c 168))
  exact ⟨k.o0, k.o1, k.o2, k.o3, k.o4, k.o5, fun _ => ⟨rfl, h.sz, c, hc, RowK.new w c 168, fun q => by rw [show upd L 6 9 = L 9 from rfl, h7] at q; cases q⟩, k.n1, fun q _ => Nat.ne_of_lt (h.lt4 q), fun q _ => Nat.ne_of_lt (h.lt5 q), k.rs, k.rb, k.rz, k.be, k.sz, k.k7, k.k8, fun _ => rfl⟩
theorem MI.l7 {W w : World} {s : St} {b : List UInt8} {L : Nat → Bool} {g5 g6 g7 : Nat} {v5 v6 v7 v12 v13 v14 v15 : Value} (h : MI W s b L g5 g6 g7 v5 v6 v7 v12 v13 v14 v15 w) (h4 : L 4 = true) : MI W s b (upd L 7) g5 g6 g7 v5 v6 v7 v12 v13 v14 v15 (w.setRow g5 (cU (ws b))) := by
  obtain ⟨e, g, c, hc, r, q⟩ := h.o4 h4
  refine ⟨h.o0, h.o1, h.o2, h.o3, ?_, ?_, ?_, h.n1, h.n2, h.n3, h.rs.setRow_other _ _ (by omega), h.rb.setRow_other _ _ (by omega), ?_, below_row h.be (by omega) _, by rw [setRow_size]; exact h.sz, fun _ => h4, h.k8, h.k9⟩
  · intro _; exact ⟨e, g, _, by rw [cU_size]; exact w2_len b 48, r.setRow _, fun _ => rfl⟩
  · intro hl; obtain ⟨e', g', c', hc', r', q'⟩ := h.o5 hl; exact ⟨e', g', c', hc', r'.setRow_other _ _ (Ne.symm (h.n1 h4 hl)), q'⟩
  · intro hl; obtain ⟨e', g', c', hc', r', q'⟩ := h.o6 hl; exact ⟨e', g', c', hc', r'.setRow_other _ _ (Ne.symm (h.n2 h4 hl)), q'⟩
  · obtain ⟨c', hc', r'⟩ := h.rz; exact ⟨c', hc', r'.setRow_other _ _ (by omega)⟩
theorem MI.l8 {W w : World} {s : St} {b : List UInt8} {L : Nat → Bool} {g5 g6 g7 : Nat} {v5 v6 v7 v12 v13 v14 v15 : Value} (h : MI W s b L g5 g6 g7 v5 v6 v7 v12 v13 v14 v15 w) (h5 : L 5 = true) : MI W s b (upd L 8) g5 g6 g7 v5 v6 v7 v12 v13 v14 v15 (w.setRow g6 (cU ks)) := by
  obtain ⟨e, g, c, hc, r, q⟩ := h.o5 h5
  refine ⟨h.o0, h.o1, h.o2, h.o3, ?_, ?_, ?_, h.n1, h.n2, h.n3, h.rs.setRow_other _ _ (by omega), h.rb.setRow_other _ _ (by omega), ?_, below_row h.be (by omega) _, by rw [setRow_size]; exact h.sz, h.k7, fun _ => h5, h.k9⟩
  · intro hl; obtain ⟨e', g', c', hc', r', q'⟩ := h.o4 hl; exact ⟨e', g', c', hc', r'.setRow_other _ _ (h.n1 hl h5), q'⟩
  · intro _; exact ⟨e, g, _, rfl, r.setRow _, fun _ => rfl⟩
  · intro hl; obtain ⟨e', g', c', hc', r', q'⟩ := h.o6 hl; exact ⟨e', g', c', hc', r'.setRow_other _ _ (Ne.symm (h.n3 h5 hl)), q'⟩
  · obtain ⟨c', hc', r'⟩ := h.rz; exact ⟨c', hc', r'.setRow_other _ _ (by omega)⟩
theorem MI.l9 {W w : World} {s : St} {b : List UInt8} {L : Nat → Bool} {g5 g6 g7 : Nat} {v5 v6 v7 v12 v13 v14 v15 : Value} (h : MI W s b L g5 g6 g7 v5 v6 v7 v12 v13 v14 v15 w) (h6 : L 6 = true) : MI W s b (upd L 9) g5 g6 g7 v5 v6 v7 v12 v13 v14 v15 (w.setRow g7 (cU s.l)) := by
  obtain ⟨e, g, c, hc, r, q⟩ := h.o6 h6
  refine ⟨h.o0, h.o1, h.o2, h.o3, ?_, ?_, ?_, h.n1, h.n2, h.n3, h.rs.setRow_other _ _ (by omega), h.rb.setRow_other _ _ (by omega), ?_, below_row h.be (by omega) _, by rw [setRow_size]; exact h.sz, h.k7, h.k8, fun _ => h6⟩
  · intro hl; obtain ⟨e', g', c', hc', r', q'⟩ := h.o4 hl; exact ⟨e', g', c', hc', r'.setRow_other _ _ (h.n2 hl h6), q'⟩
  · intro hl; obtain ⟨e', g', c', hc', r', q'⟩ := h.o5 hl; exact ⟨e', g', c', hc', r'.setRow_other _ _ (h.n3 hl h6), q'⟩
  · intro _; exact ⟨e, g, _, rfl, r.setRow _, fun _ => rfl⟩
  · obtain ⟨c', hc', r'⟩ := h.rz; exact ⟨c', hc', r'.setRow_other _ _ (by omega)⟩
end Go.Proofs.YtmjaobddgaglhaaGreatDoor
namespace Go.Proofs.YtmjaobddgaglhaaGreatDoor
open Go.RowKit
open Sha
set_option maxRecDepth 8000
theorem ws_len (b : List UInt8) : (ws b).length = 64 := w2_len b 48
theorem z8_lit : cU (List.replicate 8 0) = #[.int .u32 0, .int .u32 0, .int .u32 0, .int .u32 0, .int .u32 0, .int .u32 0, .int .u32 0, .int .u32 0] := by rfl
theorem MX.start (w : World) (s : St) (b : List UInt8) : MX w s b (fun _ => false) (fr s b w.heap.size undef undef undef undef undef undef undef) (((w.alloc (.cells (cU s.l) 168)).alloc (.cells (cB b) 171)).alloc (.cells #[.int .u32 0, .int .u32 0, .int .u32 0, .int .u32 0, .int .u32 0, .int .u32 0, .int .u32 0, .int .u32 0] 168)).drew := by
  have no : ∀ {p : Prop}, (fun _ : Nat => false) 0 = true → p := by intro p h; cases h
  refine ⟨0, 0, 0, _, _, _, _, _, _, _, ⟨no, no, no, no, no, no, no, fun h => no h, fun h => no h, fun h => no h, ?_, ?_, ?_, ?_, ?_, no, no, no⟩, rfl⟩
  · exact (((RowK.new w (cU s.l) 168).alloc _).alloc _).drew
  · have := (RowK.new (w.alloc (.cells (cU s.l) 168)) (cB b) 171).alloc (.cells (cU (List.replicate 8 0)) 168)
    rw [World.size_alloc, z8_lit] at this
    exact this.drew
  · have := RowK.new ((w.alloc (.cells (cU s.l) 168)).alloc (.cells (cB b) 171)) (cU (List.replicate 8 0)) 168
    rw [World.size_alloc, World.size_alloc, z8_lit] at this
    exact ⟨_, by simp, this.drew⟩
  · exact ((((Below.refl _ _).alloc (Nat.le_refl _) _).alloc (by simp) _).alloc (by simp; omega) _).drew
  · simp
structure ML (W wr : World) (s : St) (b : List UInt8) (g5 g6 g7 : Nat) (S : List UInt32) (v : St) : Prop where
  r5 : RowK wr g5 (cU (ws b)) 196
  r6 : RowK wr g6 (cU ks) 196
  r7 : RowK wr g7 (cU v.l) 168
  rs : RowK wr W.heap.size (cU S) 168
  rz : ∃ c, c.size = 8 ∧ RowK wr (W.heap.size + 1 + 1) c 168
  be : Below W.heap.size W wr
  i5 : W.heap.size + 3 ≤ g5
  i6 : W.heap.size + 3 ≤ g6
  i7 : W.heap.size + 3 ≤ g7
  n5 : g5 ≠ g7
  n6 : g6 ≠ g7
theorem ML.c {W wr : World} {s : St} {b : List UInt8} {g5 g6 g7 : Nat} {S : List UInt32} {v : St} (h : ML W wr s b g5 g6 g7 S v) :
    wr.cell? ⟨g7, 0, none⟩ = some (.int .u32 (u v.a)) ∧ wr.cell? ⟨g7, 1, none⟩ = some (.int .u32 (u v.b)) ∧ wr.cell? ⟨g7, 2, none⟩ = some (.int .u32 (u v.c)) ∧ wr.cell? ⟨g7, 3, none⟩ = some (.int .u32 (u v.d)) ∧
    wr.cell? ⟨g7, 4, none⟩ = some (.int .u32 (u v.e)) ∧ wr.cell? ⟨g7, 5, none⟩ = some (.int .u32 (u v.f)) ∧ wr.cell? ⟨g7, 6, none⟩ = some (.int .u32 (u v.g)) ∧ wr.cell? ⟨g7, 7, none⟩ = some (.int .u32 (u v.h)) := by
  refine ⟨?_, ?_, ?_, ?_, ?_, ?_, ?_, ?_⟩ <;> (rw [h.r7.cell]; rfl)
theorem ML.drewN {W wr : World} {s : St} {b : List UInt8} {g5 g6 g7 : Nat} {S : List UInt32} {v : St} (h : ML W wr s b g5 g6 g7 S v) (n : Nat) : ML W (wr.drewN n) s b g5 g6 g7 S v :=
  ⟨h.r5.drewN n, h.r6.drewN n, h.r7.drewN n, h.rs.drewN n, h.rz.imp fun _ q => ⟨q.1, q.2.drewN n⟩, ⟨h.be.os, h.be.tape, h.be.output, h.be.size, h.be.block⟩, h.i5, h.i6, h.i7, h.n5, h.n6⟩
theorem ML.store {W wr : World} {s : St} {b : List UInt8} {g5 g6 g7 : Nat} {S : List UInt32} {v : St} (h : ML W wr s b g5 g6 g7 S v) (v' : St) : ML W (wr.setRow g7 (cU v'.l)) s b g5 g6 g7 S v' := by
  have := h.i7
  exact ⟨h.r5.setRow_other _ _ h.n5, h.r6.setRow_other _ _ h.n6, h.r7.setRow _, h.rs.setRow_other _ _ (by omega), h.rz.imp fun _ q => ⟨q.1, q.2.setRow_other _ _ (by omega)⟩, below_row h.be (by omega) _, h.i5, h.i6, h.i7, h.n5, h.n6⟩
theorem u_not (a : UInt32) : bits .xor .u32 4294967295 (u a) = u (nt a) := by
  have e : (4294967295 : Int) = u 4294967295 := rfl
  rw [e, u_xor]
  refine congrArg u ?_
  apply UInt32.eq_of_toBitVec_eq
  unfold xr nt
  rw [UInt32.toBitVec_xor, UInt32.toBitVec_not]
  exact BitVec.allOnes_xor
theorem u_add5 (a b c d e : UInt32) : ((u a + u b + u c + u d) % 4294967296 + u e) % 4294967296 = u (ad (ad (ad (ad a b) c) d) e) := by
  rw [u_add4, u_add]
theorem x1_eq (v : St) (kk ww : UInt32) : ((u v.h + bits .xor .u32 (bits .xor .u32 (u (rr v.e 6)) (u (rr v.e 11))) (u (rr v.e 25)) + bits .xor .u32 (bits .and .u32 (u v.e) (u v.f)) (bits .and .u32 (bits .xor .u32 4294967295 (u v.e)) (u v.g)) + u kk) % 4294967296 + u ww) % 4294967296 = u (x1 v kk ww) := by
  simp only [u_not, u_xor, u_and, u_add5, x1]
theorem y1_eq (v : St) : (bits .xor .u32 (bits .xor .u32 (u (rr v.a 2)) (u (rr v.a 13))) (u (rr v.a 22)) + bits .xor .u32 (bits .xor .u32 (bits .and .u32 (u v.a) (u v.b)) (bits .and .u32 (u v.a) (u v.c))) (bits .and .u32 (u v.b) (u v.c))) % 4294967296 = u (y1 v) := by
  simp only [u_xor, u_and, u_add, y1]
theorem rnd_cells (v : St) (kk ww : UInt32) : (#[.int .u32 ((u (x1 v kk ww) + u (y1 v)) % 4294967296), .int .u32 (u v.a), .int .u32 (u v.b), .int .u32 (u v.c), .int .u32 ((u v.d + u (x1 v kk ww)) % 4294967296), .int .u32 (u v.e), .int .u32 (u v.f), .int .u32 (u v.g)] : Array Value) = cU (rnd v kk ww).l := by
  rw [u_add, u_add]; rfl
def part (s v : List UInt32) (k : Nat) : List UInt32 := (List.range 8).map fun j => if j < k then ad (s.getD j 0) (v.getD j 0) else s.getD j 0
theorem part_last (s v : St) : part s.l v.l 8 = (sm s v).l := by rfl
theorem part_len (s v : List UInt32) (k : Nat) : (part s v k).length = 8 := by simp [part]
theorem part_at (s v : List UInt32) (k : Nat) (h : k < 8) : (part s v k).getD k 0 = s.getD k 0 := by
  simp [part, h]
theorem part_next (s v : List UInt32) (k : Nat) (h : k < 8) : part s v (k + 1) = (part s v k).set k (ad (s.getD k 0) (v.getD k 0)) := by
  match k, h with
  | 0, _ => rfl
  | 1, _ => rfl
  | 2, _ => rfl
  | 3, _ => rfl
  | 4, _ => rfl
  | 5, _ => rfl
  | 6, _ => rfl
  | 7, _ => rfl
theorem ML.put {W wr : World} {s : St} {b : List UInt8} {g5 g6 g7 : Nat} {S : List UInt32} {v : St} (h : ML W wr s b g5 g6 g7 S v) (k n : Nat) (x : UInt32) : ML W ((wr.setCell ⟨W.heap.size, k, none⟩ (.int .u32 (u x))).drewN n) s b g5 g6 g7 (S.set k x) v := by
  have h5 := h.i5
  have h6 := h.i6
  have h7 := h.i7
  refine ⟨(h.r5.set_other _ _ (by simp; omega)).drewN n, (h.r6.set_other _ _ (by simp; omega)).drewN n, (h.r7.set_other _ _ (by simp; omega)).drewN n, ?_, h.rz.imp fun _ q => ⟨q.1, (q.2.set_other _ _ (by simp; omega)).drewN n⟩, ?_, h.i5, h.i6, h.i7, h.n5, h.n6⟩
  · have := (h.rs.set k (.int .u32 (u x))).drewN n
    rwa [cU_set] at this
  · have := h.be.setCell (p := ⟨W.heap.size, k, none⟩) (Nat.le_refl _) (.int .u32 (u x))
    exact ⟨this.os, this.tape, this.output, this.size, this.block⟩
theorem MX.done {w w' : World} {s : St} {b : List UInt8} {L : Nat → Bool} {a : Act} (hL : ∀ i, i < 10 → L i = true) (h : MX w s b L a w') :
    ∃ g5 g6 g7, ML w w' s b g5 g6 g7 s.l s ∧ a = fr s b w.heap.size (.pointer (some ⟨g5, 0, none⟩)) (.pointer (some ⟨g6, 0, none⟩)) (.pointer (some ⟨g7, 0, none⟩)) (.agg (cB b)) (.agg (cU (ws b))) (.agg (cU ks)) (.agg (cU s.l)) := by
  obtain ⟨g5, g6, g7, v5, v6, v7, v12, v13, v14, v15, h, rfl⟩ := h
  have h12 := h.o0 (hL 0 (by omega))
  have h13 := h.o1 (hL 1 (by omega))
  have h14 := h.o2 (hL 2 (by omega))
  have h15 := h.o3 (hL 3 (by omega))
  obtain ⟨e5, i5, c5, s5, r5, q5⟩ := h.o4 (hL 4 (by omega))
  obtain ⟨e6, i6, c6, s6, r6, q6⟩ := h.o5 (hL 5 (by omega))
  obtain ⟨e7, i7, c7, s7, r7, q7⟩ := h.o6 (hL 6 (by omega))
  have q5 := q5 (hL 7 (by omega))
  have q6 := q6 (hL 8 (by omega))
  have q7 := q7 (hL 9 (by omega))
  subst h12 h13 h14 h15 e5 e6 e7 q5 q6 q7
  exact ⟨g5, g6, g7, ⟨r5, r6, r7, h.rs, h.rz, h.be, i5, i6, i7, h.n2 (hL 4 (by omega)) (hL 6 (by omega)), h.n3 (hL 5 (by omega)) (hL 6 (by omega))⟩, rfl⟩
set_option maxHeartbeats 2000000 in
set_option maxRecDepth 100000 in
theorem mix_any (s : St) (b : List UInt8) (w : World) (hb : b.length = 64) :
    Calls Tryz.prog 131 #[.agg (cU s.l), .agg (cB b)] w fun e w' => e = .returned (.agg (cU (mx s b).l)) ∧ Below w.heap.size w w' := by
  have hst := hide (MX.start w s b)
  go_enter Tryz.func131, Tryz.ntmps131
  go_wp2
  rename_i K hK
  have HK := hide hK
  clear hK
  refine region_invH (by kernel_rfl) (MX w s b) ?_ ?_ ?_ ?_
  · intro i o ho e he hbnd
    match i, ho with
    | 0, ho => simp at ho; subst ho; simp at he
    | 1, ho => simp at ho; subst ho; simp at he; subst he; decide
    | 2, ho => simp at ho; subst ho; simp at he; subst he; decide
    | 3, ho => simp at ho; subst ho; simp at he; subst he; simp [Region.binds] at hbnd
    | 4, ho => simp at ho; subst ho; simp at he
    | 5, ho => simp at ho; subst ho; simp at he
    | 6, ho => simp at ho; subst ho; simp at he
    | 7, ho => simp at ho; subst ho; simp at he; rcases he with rfl | rfl | rfl | rfl | rfl | rfl | rfl | rfl | rfl | rfl <;> decide
    | 8, ho => simp at ho; subst ho; simp at he; rcases he with rfl | rfl | rfl | rfl | rfl | rfl | rfl | rfl | rfl | rfl | rfl <;> decide
    | 9, ho => simp at ho; subst ho; simp at he; rcases he with rfl | rfl | rfl | rfl | rfl | rfl | rfl | rfl | rfl | rfl | rfl | rfl <;> decide
    | n + 10, ho => simp at ho
  · exact unhide hst
  · intro L a w' i o ho hL hd hI
    obtain ⟨g5, g6, g7, v5, v6, v7, v12, v13, v14, v15, hI, rfl⟩ := hI
    match i, ho, hL with
    | 0, ho, hL =>
      have hop : o.op = .load 171 (.tmp 3) := by obtain rfl := Option.some.inj ho; rfl
      have hds : o.dst = some 12 := by obtain rfl := Option.some.inj ho; rfl
      have hgd : o.guard = none := by obtain rfl := Option.some.inj ho; rfl
      refine op_wp ho hgd ?_
      clear ho hgd hst HK
      refine wp_load_row 171 (.tmp 3) hop (w.heap.size + 1) rfl 171 (cB b) (0, 0) _ hI.rb Tryz.underlying171 rfl (sz68 hb) ?_
      rw [hds]
      exact ⟨_, _, _, _, _, _, _, _, _, _, hI.l0, rfl⟩
    | 1, ho, hL =>
      obtain rfl := Option.some.inj ho
      refine op_wp ho rfl ?_
      clear ho
      have h12 := hI.o0 (hd ⟨0, .data⟩ (by simp) rfl)
      subst h12
      clear hd
      unfold fr
      have HI := hide hI
      clear hI hst HK
      go_wp2_with fail
      refine (words_any b w' hb).mono ?_
      rintro e w1 ⟨rfl, hbl⟩
      exact ⟨_, _, _, _, _, _, _, _, _, _, ((unhide HI).below hbl).l1, rfl⟩
    | 2, ho, hL =>
      obtain rfl := Option.some.inj ho
      refine op_wp ho rfl ?_
      clear ho
      clear hd
      unfold fr
      have HI := hide hI
      clear hI hst HK
      go_wp2_with fail
      refine (rounds_any w').mono ?_
      rintro e w1 ⟨rfl, hbl⟩
      exact ⟨_, _, _, _, _, _, _, _, _, _, ((unhide HI).below hbl).l2, rfl⟩
    | 3, ho, hL =>
      have hop : o.op = .load 168 (.tmp 2) := by obtain rfl := Option.some.inj ho; rfl
      have hds : o.dst = some 15 := by obtain rfl := Option.some.inj ho; rfl
      have hgd : o.guard = none := by obtain rfl := Option.some.inj ho; rfl
      refine op_wp ho hgd ?_
      clear ho hgd hst HK
      refine wp_load_row 168 (.tmp 2) hop (w.heap.size) rfl 168 (cU s.l) (0, 0) _ hI.rs Tryz.underlying168 rfl (sz65 s) ?_
      rw [hds]
      exact ⟨_, _, _, _, _, _, _, _, _, _, hI.l3, rfl⟩
    | 4, ho, hL =>
      obtain rfl := Option.some.inj ho
      refine op_wp ho rfl ?_
      clear ho
      clear hd
      unfold fr
      have HI := hide hI
      have HL := hide hL
      clear hI hst HK hL
      go_wp2_with fail
      exact ⟨_, _, _, _, _, _, _, _, _, _, (unhide HI).l4 _ rfl (unhide HL), rfl⟩
    | 5, ho, hL =>
      obtain rfl := Option.some.inj ho
      refine op_wp ho rfl ?_
      clear ho
      clear hd
      unfold fr
      have HI := hide hI
      have HL := hide hL
      clear hI hst HK hL
      go_wp2_with fail
      exact ⟨_, _, _, _, _, _, _, _, _, _, (unhide HI).l5 _ rfl (unhide HL), rfl⟩
    | 6, ho, hL =>
      obtain rfl := Option.some.inj ho
      refine op_wp ho rfl ?_
      clear ho
      clear hd
      unfold fr
      have HI := hide hI
      have HL := hide hL
      clear hI hst HK hL
      go_wp2_with fail
      exact ⟨_, _, _, _, _, _, _, _, _, _, (unhide HI).l6 _ rfl (unhide HL), rfl⟩
    | 7, ho, hL =>
      have hop : o.op = .store 196 (.tmp 5) (.tmp 13) := by obtain rfl := Option.some.inj ho; rfl
      have hds : o.dst = none := by obtain rfl := Option.some.inj ho; rfl
      have hgd : o.guard = none := by obtain rfl := Option.some.inj ho; rfl
      have h4 : L 4 = true := hd ⟨4, .data⟩ (by obtain rfl := Option.some.inj ho; simp) rfl
      have h1 : L 1 = true := hd ⟨1, .data⟩ (by obtain rfl := Option.some.inj ho; simp) rfl
      refine op_wp ho hgd ?_
      clear ho hgd hst HK
      have e13 := hI.o1 h1
      obtain ⟨e5, gg, c, hc, r, q⟩ := hI.o4 h4
      subst e13 e5
      refine wp_store_row 196 (.tmp 5) (.tmp 13) hop g5 (cU (ws b)) rfl rfl 196 c r (sz74 (ws_len b)) (by rw [hc, cU_size]; exact (ws_len b).symm) (cU_one _) ?_
      rw [hds]
      exact ⟨_, _, _, _, _, _, _, _, _, _, hI.l7 h4, rfl⟩
    | 8, ho, hL =>
      have hop : o.op = .store 196 (.tmp 6) (.tmp 14) := by obtain rfl := Option.some.inj ho; rfl
      have hds : o.dst = none := by obtain rfl := Option.some.inj ho; rfl
      have hgd : o.guard = none := by obtain rfl := Option.some.inj ho; rfl
      have h5 : L 5 = true := hd ⟨5, .data⟩ (by obtain rfl := Option.some.inj ho; simp) rfl
      have h2 : L 2 = true := hd ⟨2, .data⟩ (by obtain rfl := Option.some.inj ho; simp) rfl
      refine op_wp ho hgd ?_
      clear ho hgd hst HK
      have e14 := hI.o2 h2
      obtain ⟨e6, gg, c, hc, r, q⟩ := hI.o5 h5
      subst e14 e6
      refine wp_store_row 196 (.tmp 6) (.tmp 14) hop g6 (cU ks) rfl rfl 196 c r (sz74 ks_len) (by rw [hc, cU_size]; exact ks_len.symm) (cU_one _) ?_
      rw [hds]
      exact ⟨_, _, _, _, _, _, _, _, _, _, hI.l8 h5, rfl⟩
    | 9, ho, hL =>
      have hop : o.op = .store 168 (.tmp 7) (.tmp 15) := by obtain rfl := Option.some.inj ho; rfl
      have hds : o.dst = none := by obtain rfl := Option.some.inj ho; rfl
      have hgd : o.guard = none := by obtain rfl := Option.some.inj ho; rfl
      have h6 : L 6 = true := hd ⟨6, .data⟩ (by obtain rfl := Option.some.inj ho; simp) rfl
      have h3 : L 3 = true := hd ⟨3, .data⟩ (by obtain rfl := Option.some.inj ho; simp) rfl
      refine op_wp ho hgd ?_
      clear ho hgd hst HK
      have e15 := hI.o3 h3
      obtain ⟨e7, gg, c, hc, r, q⟩ := hI.o6 h6
      subst e15 e7
      refine wp_store_row 168 (.tmp 7) (.tmp 15) hop g7 (cU s.l) rfl rfl 168 c r (sz65 s) (by rw [hc, cU_size]; rfl) (cU_one _) ?_
      rw [hds]
      exact ⟨_, _, _, _, _, _, _, _, _, _, hI.l9 h6, rfl⟩
    | n + 10, ho, hL => simp at ho
  · intro L a w' hL hI
    have hL' : ∀ i, i < 10 → L i = true := fun i hi => hL i hi
    obtain ⟨g5, g6, g7, hM, rfl⟩ := MX.done hL' hI
    clear hL hL' hI hst
    refine unhide HK _ _ ?_
    clear HK
    unfold fr
    have HM := hide hM
    clear hM
    go_wp2
    go_loopw [16] (fun i wr => ∃ t : Nat, t ≤ 64 ∧ i = .int .i64 t ∧ ML w wr s b g5 g6 g7 s.l (rn (ws b) s t)) (fun i _ => 64 - (intOf i).toNat)
    case atStart => exact ⟨0, by omega, rfl, unhide HM⟩
    case round =>
      clear HM
      obtain ⟨t, ht, rfl, h1⟩ := hrel
      by_cases hlt : t < 64
      · have i0 : (0 : Int) ≤ (t : Int) := by omega
        have i1 : (t : Int) < 64 := by omega
        have hk := hide (show ks.length = 64 from rfl)
        have c5 : wr.cell? ⟨g5, t, none⟩ = some (.int .u32 (u ((ws b).getD t 0))) := by rw [h1.r5.cell]; exact cU_get _ _ (by rw [ws_len]; omega)
        have c6 : wr.cell? ⟨g6, t, none⟩ = some (.int .u32 (u (ks.getD t 0))) := by rw [h1.r6.cell]; exact cU_get _ _ (by rw [ks_len]; omega)
        generalize hv : rn (ws b) s t = v at h1
        generalize hkk : ks.getD t 0 = kk at c6
        generalize hww : (ws b).getD t 0 = ww at c5
        have HV := hide hv
        have HKK := hide hkk
        have HWW := hide hww
        clear hv hkk hww
        obtain ⟨f0, f1, f2, f3, f4, f5, f6, f7⟩ := h1.c
        have hnot : (if IntKind.u32.signed = true then (-1 : Int) else IntKind.u32.max) = 4294967295 := rfl
        go_wp2_with fail
        go_quiet ((go_at_call 149; exact Calls.quiet_of_same (turn_any _ _ _ (by omega) (by omega))))
        rw [x1_eq]
        have h2 := h1.drewN nq
        clear h1 f0 f1 f2 f3 f4 f5 f6 f7 c5 c6
        generalize wr.drewN nq = w2 at *
        obtain ⟨f0, f1, f2, f3, f4, f5, f6, f7⟩ := h2.c
        go_wp2_with fail
        go_quiet ((go_at_call 149; exact Calls.quiet_of_same (turn_any _ _ _ (by omega) (by omega))))
        rw [y1_eq]
        have h3 := h2.drewN nq
        clear h2 f0 f1 f2 f3 f4 f5 f6 f7
        generalize w2.drewN nq = w3 at *
        obtain ⟨f0, f1, f2, f3, f4, f5, f6, f7⟩ := h3.c
        have H3 := hide h3
        clear h3
        go_wp2_with (refine wpList_store_row rfl 168 (.tmp 7) (.tmp 102) rfl g7 (cU (rnd v kk ww).l) (by rfl) (by exact congrArg Value.agg (rnd_cells v kk ww)) 168 (cU v.l) (unhide H3).r7 (sz65 _) (by rw [cU_size, cU_size]; rfl) (cU_one _) ?_)
        go_roundw
        case rel =>
          refine ⟨t + 1, by omega, by go_num, ?_⟩
          have e : rn (ws b) s (t + 1) = rnd v kk ww := by rw [rn, unhide HV, unhide HKK, unhide HWW]
          rw [e]
          exact (unhide H3).store _
        case measure => simp [intOf]; omega
      · have h64 : t = 64 := by omega
        have hd : decide ((t : Int) < 64) = false := by simp; omega
        generalize hv : rn (ws b) s t = v at h1
        have HV := hide (show rn (ws b) s 64 = v by rw [← hv, h64])
        clear hv hlt h64
        have h0 : ML w wr s b g5 g6 g7 (part s.l v.l 0) v := h1
        have H0 := hide h0
        clear h0 h1
        go_wp2
        go_loopw [104] (fun i wr => ∃ k : Nat, k ≤ 8 ∧ i = .int .i64 k ∧ ML w wr s b g5 g6 g7 (part s.l v.l k) v) (fun i _ => 8 - (intOf i).toNat)
        case atStart => exact ⟨0, by omega, rfl, unhide H0⟩
        case round =>
          clear H0
          obtain ⟨k, hk, rfl, h1⟩ := hrel
          by_cases hlt : k < 8
          · have i0 : (0 : Int) ≤ (k : Int) := by omega
            have i1 : (k : Int) < 8 := by omega
            have c2 : wr.cell? ⟨w.heap.size, k, none⟩ = some (.int .u32 (u (s.l.getD k 0))) := by
              rw [h1.rs.cell, cU_get _ _ (by rw [part_len]; exact hlt), part_at _ _ _ hlt]
            have z2 : wr.frozen? ⟨w.heap.size, k, none⟩ = false := h1.rs.frozen k
            have c7 : wr.cell? ⟨g7, k, none⟩ = some (.int .u32 (u (v.l.getD k 0))) := by
              rw [h1.r7.cell, cU_get _ _ (show k < 8 from hlt)]
            have n7 : g7 ≠ w.heap.size := by have := h1.i7; omega
            generalize hx : s.l.getD k 0 = x at c2
            generalize hy : v.l.getD k 0 = y at c7
            have HX := hide hx
            have HY := hide hy
            have H1 := hide h1
            clear hx hy h1
            go_wp2
            go_region
            all_goals (go_wp2; go_roundw)
            case rel =>
              refine ⟨k + 1, by omega, by go_num, ?_⟩
              rw [u_add, part_next _ _ _ hlt, unhide HX, unhide HY]
              exact (unhide H1).put k 1 _
            case measure => simp [intOf]; omega
          · have hk8 : k = 8 := by omega
            have hd8 : decide ((k : Int) < 8) = false := by simp; omega
            have e8 : part s.l v.l k = (mx s b).l := by rw [hk8, part_last, mx, unhide HV]
            obtain ⟨c, hc, rz⟩ := h1.rz
            have rs := h1.rs
            rw [e8] at rs
            have hbe := h1.be
            clear h1 hk8 e8 hlt hk HV
            have HR := hide rs
            have HZ := hide rz
            clear rs rz
            go_wp2_with (first | (refine wpList_load_row rfl 168 (.tmp 2) rfl w.heap.size rfl 168 (cU (mx s b).l) (0, 0) _ (unhide HR) Tryz.underlying168 rfl (sz65 _) ?_) | (refine wpList_store_row rfl 168 (.tmp 4) (.tmp 116) rfl (w.heap.size + 1 + 1) (cU (mx s b).l) (by rfl) (by rfl) 168 c (unhide HZ) (sz65 _) (by rw [hc, cU_size]; rfl) (cU_one _) ?_))
            have hr := (unhide HZ).setRow (cU (mx s b).l)
            exact bodyPost_ret (v := .agg (cU (mx s b).l)) (results_cell_row Tryz.results131 _ _ (w.heap.size + 1 + 1) 168 (cU (mx s b).l) (0, 0) _ rfl hr Tryz.underlying168 rfl (sz65 _)) rfl ⟨rfl, below_row hbe (by omega) _⟩
end Go.Proofs.YtmjaobddgaglhaaGreatDoor
namespace Go.Proofs.YtmjaobddgaglhaaGreatDoor
open Go.RowKit
open Sha
set_option maxRecDepth 8000
def spl (t : List UInt8) (r : Nat) (l : List UInt8) : List UInt8 := t.take r ++ l ++ t.drop (r + l.length)
theorem spl_len (t : List UInt8) (r : Nat) (l : List UInt8) (h : r + l.length ≤ t.length) : (spl t r l).length = t.length := by
  simp [spl]; omega
theorem spl_nil (t : List UInt8) (r : Nat) : spl t r [] = t := by simp [spl]
theorem spl_cons (t : List UInt8) (r : Nat) (c : UInt8) (l : List UInt8) (h : r + (l.length + 1) ≤ t.length) : spl (t.set r c) (r + 1) l = spl t r (c :: l) := by
  unfold spl
  have e1 : (t.set r c).take (r + 1) = t.take r ++ [c] := by
    rw [List.take_succ_eq_append_getElem (by simp; omega), List.take_set_of_le (Nat.le_refl _)]
    simp
  have e2 : (t.set r c).drop (r + 1 + l.length) = t.drop (r + (c :: l).length) := by
    rw [List.drop_set_of_lt (by omega)]
    simp [Nat.add_assoc, Nat.add_comm 1]
  rw [e1, e2]
  simp
/-- A part that does not go beyond the block. -/
theorem took_chunk (l : List UInt8) : ∀ (h : Ha), h.t.length = 64 → h.n % 64 + l.length ≤ 64 → l ≠ [] →
    took h l = if (h.n + l.length) % 64 = 0 then ⟨mx h.s (spl h.t (h.n % 64) l), spl h.t (h.n % 64) l, h.n + l.length⟩ else ⟨h.s, spl h.t (h.n % 64) l, h.n + l.length⟩ := by
  induction l with
  | nil => intro h _ _ hne; exact absurd rfl hne
  | cons c l ih =>
    intro h ht hle _
    by_cases hl : l = []
    · subst hl
      have e : spl h.t (h.n % 64) [c] = h.t.set (h.n % 64) c := by
        rw [← spl_cons h.t (h.n % 64) c [] (by simp; omega), spl_nil]
      rw [e]
      simp only [took, List.foldl_cons, List.foldl_nil, put, List.length_singleton]
    · have hlp : 0 < l.length := List.length_pos_iff.2 hl
      simp only [List.length_cons] at hle
      have hne : ¬ (h.n + 1) % 64 = 0 := by omega
      have ep : put h c = ⟨h.s, h.t.set (h.n % 64) c, h.n + 1⟩ := by rw [put, if_neg hne]
      have hm : (h.n + 1) % 64 = h.n % 64 + 1 := by omega
      have := ih ⟨h.s, h.t.set (h.n % 64) c, h.n + 1⟩ (by simpa using ht) (by simp only; omega) hl
      rw [show took h (c :: l) = took (put h c) l from rfl, ep, this]
      simp only [hm]
      rw [spl_cons h.t (h.n % 64) c l (by omega)]
      simp only [List.length_cons, show h.n + 1 + l.length = h.n + (l.length + 1) from by omega]
theorem took_append (h : Ha) (a b : List UInt8) : took h (a ++ b) = took (took h a) b := by simp [took]
theorem took_n (l : List UInt8) : ∀ h : Ha, (took h l).n = h.n + l.length := by
  induction l with
  | nil => intro h; rfl
  | cons c l ih =>
    intro h
    rw [show took h (c :: l) = took (put h c) l from rfl, ih]
    have : (put h c).n = h.n + 1 := by unfold put; split <;> rfl
    rw [this, List.length_cons]; omega
theorem took_t (l : List UInt8) : ∀ h : Ha, (took h l).t.length = h.t.length := by
  induction l with
  | nil => intro h; rfl
  | cons c l ih =>
    intro h
    rw [show took h (c :: l) = took (put h c) l from rfl, ih]
    unfold put; split <;> simp
/-- A hasher's cells. -/
def hc (h : Ha) : Array Value := (h.s.l.map U ++ (h.t.map B ++ [Value.int .i64 h.n])).toArray
theorem hc_size (h : Ha) (ht : h.t.length = 64) : (hc h).size = 73 := by simp [hc, ht, St.l]
theorem hc_n (h : Ha) (ht : h.t.length = 64) : (hc h)[72]? = some (.int .i64 h.n) := by
  simp [hc, St.l, ht]
theorem hc_toList (h : Ha) : (hc h).toList = h.s.l.map U ++ (h.t.map B ++ [Value.int .i64 h.n]) := by simp [hc]
theorem hc_copy (h : Ha) (r : Nat) (l : List UInt8) (ht : h.t.length = 64) (hr : r + l.length ≤ 64) :
    ((hc h).toList.take (8 + r) ++ l.map B ++ (hc h).toList.drop (8 + r + (l.map B).length)).toArray = hc ⟨h.s, spl h.t r l, h.n⟩ := by
  rw [hc_toList]
  have e8 : (h.s.l.map U).length = 8 := rfl
  have et : (h.t.map B).length = 64 := by simpa using ht
  have a1 : (h.s.l.map U ++ (h.t.map B ++ [Value.int .i64 h.n])).take (8 + r) = h.s.l.map U ++ (h.t.map B).take r := by
    rw [← e8, List.take_append, List.take_of_length_le (by omega), Nat.add_sub_cancel_left, List.take_append_of_le_length (by omega)]
  have a2 : (h.s.l.map U ++ (h.t.map B ++ [Value.int .i64 h.n])).drop (8 + r + (l.map B).length) = (h.t.map B).drop (r + l.length) ++ [Value.int .i64 h.n] := by
    rw [List.length_map, Nat.add_assoc, ← e8, List.drop_append, List.drop_eq_nil_of_le (by omega), List.nil_append, Nat.add_sub_cancel_left, List.drop_append_of_le_length (by omega)]
  rw [a1, a2]
  simp [hc, spl, List.map_take, List.map_drop]
theorem hc_setn (h : Ha) (n : Nat) (ht : h.t.length = 64) : (hc h).setIfInBounds 72 (.int .i64 (n : Int)) = hc ⟨h.s, h.t, n⟩ := by
  unfold hc
  simp only [List.setIfInBounds_toArray]
  congr 1
  have e8 : (h.s.l.map U).length = 8 := rfl
  have et : (h.t.map B).length = 64 := by simpa using ht
  rw [List.set_append_right _ _ (by omega), e8, List.set_append_right _ _ (by omega), et]
  rfl
end Go.Proofs.YtmjaobddgaglhaaGreatDoor
namespace Go.Proofs.YtmjaobddgaglhaaGreatDoor
open Go.RowKit
open Sha
set_option maxRecDepth 8000
/-- But for one block, what was there is as it was. -/
structure OnlyH (b : Nat) (w w' : World) : Prop where
  os : w'.os = w.os
  tape : w'.tape = w.tape
  output : w'.output = w.output
  size : w.heap.size ≤ w'.heap.size
  block : ∀ k, k < w.heap.size → k ≠ b → w'.heap[k]? = w.heap[k]?
theorem OnlyH.refl (b : Nat) (w : World) : OnlyH b w w := ⟨rfl, rfl, rfl, Nat.le_refl _, fun _ _ _ => rfl⟩
theorem OnlyH.trans {b : Nat} {w1 w2 w3 : World} (h : OnlyH b w1 w2) (k : OnlyH b w2 w3) : OnlyH b w1 w3 :=
  ⟨k.os.trans h.os, k.tape.trans h.tape, k.output.trans h.output, Nat.le_trans h.size k.size, fun i hi hn => (k.block i (Nat.lt_of_lt_of_le hi h.size) hn).trans (h.block i hi hn)⟩
theorem OnlyH.of_below {b : Nat} {w w' : World} (h : Below w.heap.size w w') : OnlyH b w w' := ⟨h.os, h.tape, h.output, h.size, fun i hi _ => h.block i hi⟩
theorem OnlyH.setRow {b : Nat} (w : World) (cs : Array Value) : OnlyH b w (w.setRow b cs) :=
  ⟨rfl, rfl, rfl, by simp, fun k _ hn => Go.setRow_other w b k cs hn⟩
theorem OnlyH.setCell {b : Nat} (w : World) (j : Nat) (v : Value) : OnlyH b w (w.setCell ⟨b, j, none⟩ v) :=
  ⟨rfl, rfl, rfl, by simp [World.setCell], fun k _ hn => Below.heap_setCell w ⟨b, j, none⟩ v k hn⟩
theorem OnlyH.drewN {b : Nat} {w w' : World} (h : OnlyH b w w') (n : Nat) : OnlyH b w (w'.drewN n) := ⟨h.os, h.tape, h.output, h.size, h.block⟩
def strLen : Value → Nat
  | .string s => s.size
  | _ => 0
theorem run_copy_str (w : World) (ty : TypeId) (g o dLen dCap : Nat) (cur : Array Value) (t : TypeId) (s : List UInt8)
    (hg : RowK w g cur t) (hfit : o + min s.length dLen ≤ cur.size) :
    (Builtin.copy_ #[101, 9] ty #[.slice (some ⟨g, o, none⟩) dLen dCap, .string ⟨s.toArray⟩]).run Tryz.prog w =
      .ok (goInt ((min s.length dLen : Nat) : Int)) (w.setRow g (cur.toList.take o ++ (s.take (min s.length dLen)).map B ++ cur.toList.drop (o + ((s.take (min s.length dLen)).map B).length)).toArray) := by
  have hlen : ((s.take (min s.length dLen)).map B).length = min s.length dLen := by simp
  have hst := run_storeCells_at Tryz.prog g o t ((s.take (min s.length dLen)).map B) 0 cur w hg (by rw [hlen]; simpa using hfit) (by intro v hv; simp only [List.mem_map] at hv; obtain ⟨c, _, rfl⟩ := hv; rfl)
  have hmap : s.map (fun b => Value.int .u8 (b.toNat : Int)) = s.map B := rfl
  have hi : (Tryz.prog.info? 5).map (·.size) = some 1 := by kernel_rfl
  cases hq : Tryz.prog.info? 5 with
  | none => simp [hq] at hi
  | some i =>
    simp only [List.length_map, List.length_take] at hst ⊢
    simp [Builtin.copy_, run_underlying Tryz.underlying101, Builtin.lenOf, Builtin.firstCells, sizeOf, typeInfo, ByteArray.size, hq]
    rw [hmap, ← List.map_take, show s.length.min dLen = min s.length dLen from rfl, hst]
    simp
theorem hc_s (h : Ha) (j : Nat) (v : Value) (hv : (h.s.l.map U)[j]? = some v) : (hc h)[j]? = some v := by
  have hj : j < (h.s.l.map U).length := (List.getElem?_eq_some_iff.1 hv).1
  unfold hc
  rw [List.getElem?_toArray, List.getElem?_append_left hj]
  exact hv
theorem hc_t (h : Ha) (j : Nat) (v : Value) (hv : (h.t.map B)[j]? = some v) : (hc h)[8 + j]? = some v := by
  have hj : j < (h.t.map B).length := (List.getElem?_eq_some_iff.1 hv).1
  have e8 : (h.s.l.map U).length = 8 := rfl
  unfold hc
  rw [List.getElem?_toArray, List.getElem?_append_right (by omega), e8, Nat.add_sub_cancel_left, List.getElem?_append_left hj]
  exact hv
/-- What the region that mixes reads and writes. -/
structure HR5 (b : Nat) (h : Ha) (w : World) : Prop where
  row : RowK w b (hc h) 173
theorem HR5.s {b : Nat} {h : Ha} {w : World} (x : HR5 b h w) : w.rangeAt b 0 (h.s.l.map U) := fun j v hv => by
  rw [Nat.zero_add, x.row.cell]; exact hc_s h j v hv
theorem HR5.t {b : Nat} {h : Ha} {w : World} (x : HR5 b h w) : w.rangeAt b 8 (h.t.map B) := fun j v hv => by
  rw [x.row.cell]; exact hc_t h j v hv
theorem run_tail (w : World) (b r : Nat) (hr : r < 64) :
    (Instr.sliceAt 171 (.pointer (some ⟨b, 8, none⟩)) (some (.int .i64 r)) none none).run Tryz.prog w = .ok (.slice (some ⟨b, 8 + r, none⟩) (64 - r) (64 - r)) w := by
  have hs5 := Tryz.sizeOf5
  have hne : ¬ 64 = r := by omega
  have hadd : (⟨b, 8, none⟩ : Addr).add r = ⟨b, 8 + r, none⟩ := Addr.add_mid b 8 r
  have hb := run_sliceBound (P := Tryz.prog) w .i64 (r : Int) 64 .sliceB (by omega) (by omega)
  simp [Instr.sliceAt, Instr.sureAddr, run_underlying Tryz.underlying171, Instr.sliceBounds, hs5, hb, hne, hadd]
end Go.Proofs.YtmjaobddgaglhaaGreatDoor
namespace Go.Proofs.YtmjaobddgaglhaaGreatDoor
open Go.RowKit
open Sha
set_option maxRecDepth 8000
def fr5 (b : Nat) (c1 c4 c5 c6 c7 c8 c9 c10 c11 c12 c13 c14 c15 c16 c17 c18 c19 c20 c21 c22 c23 c24 c25 c26 c27 c28 c29 c30 c31 c32 c33 c34 c35 v36 v37 v38 v39 v40 v41 v42 v43 v44 v45 v46 v47 : Value) : Act := ⟨#[Value.pointer (some ⟨b, 0, none⟩), c1, undef, undef, c4, c5, c6, c7, c8, c9, c10, c11, c12, c13, c14, c15, c16, c17, c18, c19, c20, c21, c22, c23, c24, c25, c26, c27, c28, c29, c30, c31, c32, c33, c34, c35, v36, v37, v38, v39, v40, v41, v42, v43, v44, v45, v46, v47], []⟩
/-- In the midst of the region that mixes. -/
structure M5 (W : World) (b : Nat) (h : Ha) (L : Nat → Bool) (v36 v37 v38 v39 v40 v41 v42 v43 v44 v45 v46 v47 : Value) (w : World) : Prop where
  o0 : L 0 = true → v36 = Value.pointer (some ⟨b, 0, none⟩)
  o1 : L 1 = true → v37 = Value.pointer (some ⟨b, 0, none⟩)
  o2 : L 2 = true → v38 = Value.pointer (some ⟨b, 0, none⟩)
  o3 : L 3 = true → v39 = Value.pointer (some ⟨b, 0, none⟩)
  o4 : L 4 = true → v40 = Value.agg (cU h.s.l)
  o5 : L 5 = true → v41 = Value.pointer (some ⟨b, 0, none⟩)
  o6 : L 6 = true → v42 = Value.pointer (some ⟨b, 0, none⟩)
  o7 : L 7 = true → v43 = Value.pointer (some ⟨b, 8, none⟩)
  o8 : L 8 = true → v44 = Value.agg (cB h.t)
  o9 : L 9 = true → v45 = Value.agg (cU (mx h.s h.t).l)
  o10 : L 10 = true → v46 = Value.pointer (some ⟨b, 0, none⟩)
  o11 : L 11 = true → v47 = Value.pointer (some ⟨b, 0, none⟩)
  row : RowK w b (hc (if L 12 = true then ⟨mx h.s h.t, h.t, h.n⟩ else h)) 173
  on : OnlyH b W w
  k9 : L 9 = true → L 4 = true ∧ L 8 = true
  k12 : L 12 = true → L 9 = true
def MX5 (W : World) (b : Nat) (h : Ha) (c1 c4 c5 c6 c7 c8 c9 c10 c11 c12 c13 c14 c15 c16 c17 c18 c19 c20 c21 c22 c23 c24 c25 c26 c27 c28 c29 c30 c31 c32 c33 c34 c35 : Value) (L : Nat → Bool) (a : Act) (w : World) : Prop :=
  ∃ v36 v37 v38 v39 v40 v41 v42 v43 v44 v45 v46 v47, M5 W b h L v36 v37 v38 v39 v40 v41 v42 v43 v44 v45 v46 v47 w ∧ a = fr5 b c1 c4 c5 c6 c7 c8 c9 c10 c11 c12 c13 c14 c15 c16 c17 c18 c19 c20 c21 c22 c23 c24 c25 c26 c27 c28 c29 c30 c31 c32 c33 c34 c35 v36 v37 v38 v39 v40 v41 v42 v43 v44 v45 v46 v47
theorem M5.l0 {W w : World} {b : Nat} {h : Ha} {L : Nat → Bool} {v36 v37 v38 v39 v40 v41 v42 v43 v44 v45 v46 v47 : Value} (m : M5 W b h L v36 v37 v38 v39 v40 v41 v42 v43 v44 v45 v46 v47 w) : M5 W b h (upd L 0) (Value.pointer (some ⟨b, 0, none⟩)) v37 v38 v39 v40 v41 v42 v43 v44 v45 v46 v47 w :=
  ⟨fun _ => rfl, m.o1, m.o2, m.o3, m.o4, m.o5, m.o6, m.o7, m.o8, m.o9, m.o10, m.o11, m.row, m.on, m.k9, m.k12⟩
theorem M5.l1 {W w : World} {b : Nat} {h : Ha} {L : Nat → Bool} {v36 v37 v38 v39 v40 v41 v42 v43 v44 v45 v46 v47 : Value} (m : M5 W b h L v36 v37 v38 v39 v40 v41 v42 v43 v44 v45 v46 v47 w) : M5 W b h (upd L 1) v36 (Value.pointer (some ⟨b, 0, none⟩)) v38 v39 v40 v41 v42 v43 v44 v45 v46 v47 w :=
  ⟨m.o0, fun _ => rfl, m.o2, m.o3, m.o4, m.o5, m.o6, m.o7, m.o8, m.o9, m.o10, m.o11, m.row, m.on, m.k9, m.k12⟩
theorem M5.l2 {W w : World} {b : Nat} {h : Ha} {L : Nat → Bool} {v36 v37 v38 v39 v40 v41 v42 v43 v44 v45 v46 v47 : Value} (m : M5 W b h L v36 v37 v38 v39 v40 v41 v42 v43 v44 v45 v46 v47 w) : M5 W b h (upd L 2) v36 v37 (Value.pointer (some ⟨b, 0, none⟩)) v39 v40 v41 v42 v43 v44 v45 v46 v47 w :=
  ⟨m.o0, m.o1, fun _ => rfl, m.o3, m.o4, m.o5, m.o6, m.o7, m.o8, m.o9, m.o10, m.o11, m.row, m.on, m.k9, m.k12⟩
theorem M5.l3 {W w : World} {b : Nat} {h : Ha} {L : Nat → Bool} {v36 v37 v38 v39 v40 v41 v42 v43 v44 v45 v46 v47 : Value} (m : M5 W b h L v36 v37 v38 v39 v40 v41 v42 v43 v44 v45 v46 v47 w) : M5 W b h (upd L 3) v36 v37 v38 (Value.pointer (some ⟨b, 0, none⟩)) v40 v41 v42 v43 v44 v45 v46 v47 w :=
  ⟨m.o0, m.o1, m.o2, fun _ => rfl, m.o4, m.o5, m.o6, m.o7, m.o8, m.o9, m.o10, m.o11, m.row, m.on, m.k9, m.k12⟩
theorem M5.l4 {W w : World} {b : Nat} {h : Ha} {L : Nat → Bool} {v36 v37 v38 v39 v40 v41 v42 v43 v44 v45 v46 v47 : Value} (m : M5 W b h L v36 v37 v38 v39 v40 v41 v42 v43 v44 v45 v46 v47 w) : M5 W b h (upd L 4) v36 v37 v38 v39 (Value.agg (cU h.s.l)) v41 v42 v43 v44 v45 v46 v47 w :=
  ⟨m.o0, m.o1, m.o2, m.o3, fun _ => rfl, m.o5, m.o6, m.o7, m.o8, m.o9, m.o10, m.o11, m.row, m.on, fun q => ⟨rfl, (m.k9 q).2⟩, m.k12⟩
theorem M5.l5 {W w : World} {b : Nat} {h : Ha} {L : Nat → Bool} {v36 v37 v38 v39 v40 v41 v42 v43 v44 v45 v46 v47 : Value} (m : M5 W b h L v36 v37 v38 v39 v40 v41 v42 v43 v44 v45 v46 v47 w) : M5 W b h (upd L 5) v36 v37 v38 v39 v40 (Value.pointer (some ⟨b, 0, none⟩)) v42 v43 v44 v45 v46 v47 w :=
  ⟨m.o0, m.o1, m.o2, m.o3, m.o4, fun _ => rfl, m.o6, m.o7, m.o8, m.o9, m.o10, m.o11, m.row, m.on, m.k9, m.k12⟩
theorem M5.l6 {W w : World} {b : Nat} {h : Ha} {L : Nat → Bool} {v36 v37 v38 v39 v40 v41 v42 v43 v44 v45 v46 v47 : Value} (m : M5 W b h L v36 v37 v38 v39 v40 v41 v42 v43 v44 v45 v46 v47 w) : M5 W b h (upd L 6) v36 v37 v38 v39 v40 v41 (Value.pointer (some ⟨b, 0, none⟩)) v43 v44 v45 v46 v47 w :=
  ⟨m.o0, m.o1, m.o2, m.o3, m.o4, m.o5, fun _ => rfl, m.o7, m.o8, m.o9, m.o10, m.o11, m.row, m.on, m.k9, m.k12⟩
theorem M5.l7 {W w : World} {b : Nat} {h : Ha} {L : Nat → Bool} {v36 v37 v38 v39 v40 v41 v42 v43 v44 v45 v46 v47 : Value} (m : M5 W b h L v36 v37 v38 v39 v40 v41 v42 v43 v44 v45 v46 v47 w) : M5 W b h (upd L 7) v36 v37 v38 v39 v40 v41 v42 (Value.pointer (some ⟨b, 8, none⟩)) v44 v45 v46 v47 w :=
  ⟨m.o0, m.o1, m.o2, m.o3, m.o4, m.o5, m.o6, fun _ => rfl, m.o8, m.o9, m.o10, m.o11, m.row, m.on, m.k9, m.k12⟩
theorem M5.l8 {W w : World} {b : Nat} {h : Ha} {L : Nat → Bool} {v36 v37 v38 v39 v40 v41 v42 v43 v44 v45 v46 v47 : Value} (m : M5 W b h L v36 v37 v38 v39 v40 v41 v42 v43 v44 v45 v46 v47 w) : M5 W b h (upd L 8) v36 v37 v38 v39 v40 v41 v42 v43 (Value.agg (cB h.t)) v45 v46 v47 w :=
  ⟨m.o0, m.o1, m.o2, m.o3, m.o4, m.o5, m.o6, m.o7, fun _ => rfl, m.o9, m.o10, m.o11, m.row, m.on, fun q => ⟨(m.k9 q).1, rfl⟩, m.k12⟩
theorem M5.l9 {W w : World} {b : Nat} {h : Ha} {L : Nat → Bool} {v36 v37 v38 v39 v40 v41 v42 v43 v44 v45 v46 v47 : Value} (m : M5 W b h L v36 v37 v38 v39 v40 v41 v42 v43 v44 v45 v46 v47 w) (hk : L 4 = true ∧ L 8 = true) : M5 W b h (upd L 9) v36 v37 v38 v39 v40 v41 v42 v43 v44 (Value.agg (cU (mx h.s h.t).l)) v46 v47 w :=
  ⟨m.o0, m.o1, m.o2, m.o3, m.o4, m.o5, m.o6, m.o7, m.o8, fun _ => rfl, m.o10, m.o11, m.row, m.on, fun _ => hk, fun _ => rfl⟩
theorem M5.l10 {W w : World} {b : Nat} {h : Ha} {L : Nat → Bool} {v36 v37 v38 v39 v40 v41 v42 v43 v44 v45 v46 v47 : Value} (m : M5 W b h L v36 v37 v38 v39 v40 v41 v42 v43 v44 v45 v46 v47 w) : M5 W b h (upd L 10) v36 v37 v38 v39 v40 v41 v42 v43 v44 v45 (Value.pointer (some ⟨b, 0, none⟩)) v47 w :=
  ⟨m.o0, m.o1, m.o2, m.o3, m.o4, m.o5, m.o6, m.o7, m.o8, m.o9, fun _ => rfl, m.o11, m.row, m.on, m.k9, m.k12⟩
theorem M5.l11 {W w : World} {b : Nat} {h : Ha} {L : Nat → Bool} {v36 v37 v38 v39 v40 v41 v42 v43 v44 v45 v46 v47 : Value} (m : M5 W b h L v36 v37 v38 v39 v40 v41 v42 v43 v44 v45 v46 v47 w) : M5 W b h (upd L 11) v36 v37 v38 v39 v40 v41 v42 v43 v44 v45 v46 (Value.pointer (some ⟨b, 0, none⟩)) w :=
  ⟨m.o0, m.o1, m.o2, m.o3, m.o4, m.o5, m.o6, m.o7, m.o8, m.o9, m.o10, fun _ => rfl, m.row, m.on, m.k9, m.k12⟩
theorem M5.below {W w : World} {b : Nat} {h : Ha} {L : Nat → Bool} {v36 v37 v38 v39 v40 v41 v42 v43 v44 v45 v46 v47 : Value} (m : M5 W b h L v36 v37 v38 v39 v40 v41 v42 v43 v44 v45 v46 v47 w) {w1 : World} (hb : Below w.heap.size w w1) : M5 W b h L v36 v37 v38 v39 v40 v41 v42 v43 v44 v45 v46 v47 w1 :=
  ⟨m.o0, m.o1, m.o2, m.o3, m.o4, m.o5, m.o6, m.o7, m.o8, m.o9, m.o10, m.o11, m.row.below hb m.row.lt, m.on.trans (OnlyH.of_below hb), m.k9, m.k12⟩
theorem hc_sets (h : Ha) (s : St) : (hc h).toList.take 0 ++ s.l.map U ++ (hc h).toList.drop (0 + (s.l.map U).length) = (hc ⟨s, h.t, h.n⟩).toList := by
  rw [hc_toList, hc_toList]
  rfl
theorem M5.l12 {W w : World} {b : Nat} {h : Ha} {L : Nat → Bool} {v36 v37 v38 v39 v40 v41 v42 v43 v44 v45 v46 v47 : Value} (m : M5 W b h L v36 v37 v38 v39 v40 v41 v42 v43 v44 v45 v46 v47 w) (hl : L 12 = false) (h9 : L 9 = true) : M5 W b h (upd L 12) v36 v37 v38 v39 v40 v41 v42 v43 v44 v45 v46 v47 (w.setRow b (hc ⟨mx h.s h.t, h.t, h.n⟩)) := by
  have hr := m.row
  rw [hl] at hr
  refine ⟨m.o0, m.o1, m.o2, m.o3, m.o4, m.o5, m.o6, m.o7, m.o8, m.o9, m.o10, m.o11, ?_, m.on.trans (OnlyH.setRow _ _), m.k9, fun _ => h9⟩
  exact hr.setRow _
theorem M5.no4 {W w : World} {b : Nat} {h : Ha} {L : Nat → Bool} {v36 v37 v38 v39 v40 v41 v42 v43 v44 v45 v46 v47 : Value} (m : M5 W b h L v36 v37 v38 v39 v40 v41 v42 v43 v44 v45 v46 v47 w) (hl : L 4 = false) : L 12 = false := by
  cases q : L 12 with
  | false => rfl
  | true => rw [(m.k9 (m.k12 q)).1] at hl; cases hl
theorem M5.no8 {W w : World} {b : Nat} {h : Ha} {L : Nat → Bool} {v36 v37 v38 v39 v40 v41 v42 v43 v44 v45 v46 v47 : Value} (m : M5 W b h L v36 v37 v38 v39 v40 v41 v42 v43 v44 v45 v46 v47 w) (hl : L 8 = false) : L 12 = false := by
  cases q : L 12 with
  | false => rfl
  | true => rw [(m.k9 (m.k12 q)).2] at hl; cases hl
theorem M5.row0 {W w : World} {b : Nat} {h : Ha} {L : Nat → Bool} {v36 v37 v38 v39 v40 v41 v42 v43 v44 v45 v46 v47 : Value} (m : M5 W b h L v36 v37 v38 v39 v40 v41 v42 v43 v44 v45 v46 v47 w) (hl : L 12 = false) : RowK w b (hc h) 173 := by
  have := m.row
  rwa [hl] at this
theorem wp_store_at {P : Program} {o : Oper} {a : Act} {w : World} {K : Act → World → Prop} {Q : Exit → Act → World → Prop} (ty : TypeId) (x y : Operand) (ho : o.op = .store ty x y)
    (g j : Nat) (cells : Array Value) (hx : a.eval x = .pointer (some ⟨g, j, none⟩)) (hy : a.eval y = .agg cells)
    (t : TypeId) (cur : Array Value) (hg : RowK w g cur t) (hi : (P.info? ty).map (·.size) = some cells.size)
    (hfit : j + cells.size ≤ cur.size) (h1 : cells.all (·.oneCell') = true)
    (h : K (a.put o.dst undef) (w.setRow g (cur.toList.take j ++ cells.toList ++ cur.toList.drop (j + cells.toList.length)).toArray)) : o.wp P a w K Q := by
  have hst := run_storeCells_at P g j t cells.toList 0 cur w hg (by simpa using hfit) (fun v hv => (Array.all_eq_true_iff_forall_mem.1 h1) v (by simpa using hv))
  have hsv : (storeVar ty ⟨g, j, none⟩ (.agg cells)).run P w = .ok () (w.setRow g (cur.toList.take j ++ cells.toList ++ cur.toList.drop (j + cells.toList.length)).toArray) := by
    cases hq : P.info? ty with
    | none => simp [hq] at hi
    | some i =>
      have hs : cells.size = i.size := by simp [hq] at hi; omega
      simp only [Nat.add_zero] at hst
      simp [storeVar, sizeOf, typeInfo, hq, Value.cells, hs, hst]
  unfold Oper.wp execOp
  simp only [ho, hx, hy, Instr.storeAt, Instr.sureAddr, Sem.run_bind, Sem.run_pure, Result.andThen_ok, hsv]
  exact h
end Go.Proofs.YtmjaobddgaglhaaGreatDoor
namespace Go.Proofs.YtmjaobddgaglhaaGreatDoor
open Go.RowKit
open Sha
set_option maxRecDepth 8000
theorem ext_eq (R : List UInt8) (m : Nat) : (ByteArray.mk R.toArray).extract m R.length = ⟨(R.drop m).toArray⟩ := by
  apply ByteArray.ext
  rw [ByteArray.data_extract]
  apply Array.toList_inj.1
  simp only [Array.toList_extract, List.extract]
  exact List.take_of_length_le (by simp)
theorem wr_next (h : Ha) (s : List UInt8) (k : Nat) (H : Ha) (R T : List UInt8) (m : Nat) (hH : took h (s.take k) = H) (hR : s.drop k = R) (ht : H.t.length = 64) (h1 : H.n % 64 + m ≤ 64) (h2 : 0 < m) (h3 : m ≤ R.length) (hT : spl H.t (H.n % 64) (R.take m) = T) :
    took h (s.take (k + m)) = if (H.n + m) % 64 = 0 then ⟨mx H.s T, T, H.n + m⟩ else ⟨H.s, T, H.n + m⟩ := by
  have hl : (R.take m).length = m := by simp; omega
  have e : s.take (k + m) = s.take k ++ R.take m := by rw [List.take_add, hR]
  rw [e, took_append, hH, took_chunk (R.take m) H ht (by omega) (by intro q; rw [q] at hl; simp at hl; omega), hl, hT]
set_option maxHeartbeats 1000000 in
theorem write_anyK (h : Ha) (b : Nat) (s : List UInt8) (w : World) (hr : RowK w b (hc h) 173) (ht : h.t.length = 64) (hn : h.n + s.length < 1152921504606846976) :
    Calls Tryz.prog 99 #[.pointer (some ⟨b, 0, none⟩), .string ⟨s.toArray⟩] w fun e w' => e = .returned (.tuple #[]) ∧ RowK w' b (hc (took h s)) 173 ∧ OnlyH b w w' := by
  go_enter Tryz.func99, Tryz.ntmps99
  go_wp2
  go_loopw [1] (fun v wr => ∃ k : Nat, k ≤ s.length ∧ v = .string ⟨(s.drop k).toArray⟩ ∧ RowK wr b (hc (took h (s.take k))) 173 ∧ OnlyH b w wr) (fun v _ => strLen v)
  case atStart => exact ⟨0, by omega, rfl, hr, OnlyH.refl _ _⟩
  case round =>
    obtain ⟨k, hk, rfl, hrow, hon⟩ := hrel
    by_cases hlt : k < s.length
    · have hHt : (took h (s.take k)).t.length = 64 := by rw [took_t]; exact ht
      have hHn : (took h (s.take k)).n = h.n + k := by rw [took_n]; simp; omega
      generalize hH : took h (s.take k) = H at *
      generalize hR : s.drop k = R at *
      have hRl : R.length = s.length - k := by rw [← hR]; simp
      have HH := hide hH
      have HR := hide hR
      clear hH hR
      have hRp : 0 < R.length := by omega
      have c72 : wr.cell? ⟨b, 72, none⟩ = some (.int .i64 H.n) := by rw [hrow.cell]; exact hc_n H hHt
      have hHn2 : H.n < 1152921504606846976 := by omega
      obtain ⟨r, hre⟩ : ∃ r : Nat, r = H.n % 64 := ⟨_, rfl⟩
      have hr64 : r < 64 := by omega
      have hrr : (H.n : Int) % 64 = (r : Int) := by omega
      have hsl : ∀ w, (Instr.sliceAt 171 (.pointer (some ⟨b, 8, none⟩)) (some (.int .i64 r)) none none).run Tryz.prog w = .ok (.slice (some ⟨b, 8 + r, none⟩) (64 - r) (64 - r)) w := fun w => run_tail w b r hr64
      have hcp := run_copy_str wr.drew 3 b (8 + r) (64 - r) (64 - r) (hc H) 173 R hrow.drew (by rw [hc_size H hHt]; omega)
      rw [hc_copy H r _ hHt (by simp; omega)] at hcp
      generalize hm : min R.length (64 - r) = m at hcp
      have HM := hide hm
      have HRE := hide hre
      have HHn := hide hHn
      clear hm hre
      have HRl := hide hRl
      have HRow := hide hrow
      have HHt := hide hHt
      clear hHn hRl hrow hHt
      have hm64 : (m : Int) ≤ 64 := by have := unhide HM; omega
      have hm1 : (m : Int) ≤ R.length := by have := unhide HM; omega
      go_wp2
      go_region
      have hrow1 : RowK (wr.drew.setRow b (hc { s := H.s, t := spl H.t r (List.take m R), n := H.n })) b (hc { s := H.s, t := spl H.t r (List.take m R), n := H.n }) 173 := (unhide HRow).drew.setRow _
      have hon1 : OnlyH b w (wr.drew.setRow b (hc { s := H.s, t := spl H.t r (List.take m R), n := H.n })) := (hon.drewN 1).trans (OnlyH.setRow _ _)
      have hT : (spl H.t r (List.take m R)).length = 64 := by
        rw [spl_len _ _ _ (by have := unhide HM; have := unhide HHt; simp; omega)]; exact unhide HHt
      clear hcp c72 hon hsl
      generalize wr.drew.setRow b (hc { s := H.s, t := spl H.t r (List.take m R), n := H.n }) = w1 at *
      generalize hTT : spl H.t r (List.take m R) = T at *
      have HTT := hide hTT
      clear hTT
      have c72 : w1.cell? ⟨b, 72, none⟩ = some (.int .i64 H.n) := by rw [hrow1.cell]; exact hc_n _ hT
      have z72 : w1.frozen? ⟨b, 72, none⟩ = false := hrow1.frozen 72
      have HRow1 := hide hrow1
      clear hrow1
      by_cases h0 : (H.n + m) % 64 = 0
      · have hd0 : (((H.n : Int) + (m : Int)) % 64 == 0) = true := by rw [beq_iff_eq]; omega
        have H0 := hide h0
        clear h0
        go_wp2
        have hrow2 : RowK (w1.setCell ⟨b, 72, none⟩ (.int .i64 ((H.n : Int) + (m : Int)))) b (hc ⟨H.s, T, H.n + m⟩) 173 := by
          have := (unhide HRow1).set 72 (.int .i64 ((H.n + m : Nat) : Int))
          rw [hc_setn _ _ hT] at this
          exact this
        have hon2 : OnlyH b w (w1.setCell ⟨b, 72, none⟩ (.int .i64 ((H.n : Int) + (m : Int)))) := hon1.trans (OnlyH.setCell _ _ _)
        clear c72 z72 HRow1 hon1
        generalize w1.setCell ⟨b, 72, none⟩ (.int .i64 ((H.n : Int) + (m : Int))) = w2 at *
        have hu2 := hide hrow2
        have ho2 := hide hon2
        clear hrow2 hon2
        refine region_invH (by kernel_rfl) (MX5 w b ⟨H.s, T, H.n + m⟩ _ _ _ _ _ _ _ _ _ _ _ _ _ _ _ _ _ _ _ _ _ _ _ _ _ _ _ _ _ _ _ _ _) ?hac (⟨_, _, _, _, _, _, _, _, _, _, _, _, ⟨(fun q => by cases q), (fun q => by cases q), (fun q => by cases q), (fun q => by cases q), (fun q => by cases q), (fun q => by cases q), (fun q => by cases q), (fun q => by cases q), (fun q => by cases q), (fun q => by cases q), (fun q => by cases q), (fun q => by cases q), (unhide hu2).drew, (unhide ho2).drewN 1, (fun q => by cases q), (fun q => by cases q)⟩, rfl⟩) ?hstep ?hend
        case hac =>
          intro i o ho e he hbnd
          match i, ho with
          | 0, ho => obtain rfl := Option.some.inj ho; first | (simp at he; done) | (simp at he; subst he; decide) | (simp at he; rcases he with rfl | rfl <;> first | decide | simp [Region.binds] at hbnd) | (simp at he; rcases he with rfl | rfl | rfl <;> first | decide | simp [Region.binds] at hbnd) | (simp at he; rcases he with rfl | rfl | rfl | rfl | rfl | rfl | rfl | rfl | rfl | rfl | rfl | rfl | rfl | rfl <;> first | decide | simp [Region.binds] at hbnd) | (simp at he; rcases he with rfl | rfl | rfl | rfl | rfl | rfl | rfl | rfl | rfl | rfl | rfl | rfl | rfl | rfl | rfl <;> first | decide | simp [Region.binds] at hbnd)
          | 1, ho => obtain rfl := Option.some.inj ho; first | (simp at he; done) | (simp at he; subst he; decide) | (simp at he; rcases he with rfl | rfl <;> first | decide | simp [Region.binds] at hbnd) | (simp at he; rcases he with rfl | rfl | rfl <;> first | decide | simp [Region.binds] at hbnd) | (simp at he; rcases he with rfl | rfl | rfl | rfl | rfl | rfl | rfl | rfl | rfl | rfl | rfl | rfl | rfl | rfl <;> first | decide | simp [Region.binds] at hbnd) | (simp at he; rcases he with rfl | rfl | rfl | rfl | rfl | rfl | rfl | rfl | rfl | rfl | rfl | rfl | rfl | rfl | rfl <;> first | decide | simp [Region.binds] at hbnd)
          | 2, ho => obtain rfl := Option.some.inj ho; first | (simp at he; done) | (simp at he; subst he; decide) | (simp at he; rcases he with rfl | rfl <;> first | decide | simp [Region.binds] at hbnd) | (simp at he; rcases he with rfl | rfl | rfl <;> first | decide | simp [Region.binds] at hbnd) | (simp at he; rcases he with rfl | rfl | rfl | rfl | rfl | rfl | rfl | rfl | rfl | rfl | rfl | rfl | rfl | rfl <;> first | decide | simp [Region.binds] at hbnd) | (simp at he; rcases he with rfl | rfl | rfl | rfl | rfl | rfl | rfl | rfl | rfl | rfl | rfl | rfl | rfl | rfl | rfl <;> first | decide | simp [Region.binds] at hbnd)
          | 3, ho => obtain rfl := Option.some.inj ho; first | (simp at he; done) | (simp at he; subst he; decide) | (simp at he; rcases he with rfl | rfl <;> first | decide | simp [Region.binds] at hbnd) | (simp at he; rcases he with rfl | rfl | rfl <;> first | decide | simp [Region.binds] at hbnd) | (simp at he; rcases he with rfl | rfl | rfl | rfl | rfl | rfl | rfl | rfl | rfl | rfl | rfl | rfl | rfl | rfl <;> first | decide | simp [Region.binds] at hbnd) | (simp at he; rcases he with rfl | rfl | rfl | rfl | rfl | rfl | rfl | rfl | rfl | rfl | rfl | rfl | rfl | rfl | rfl <;> first | decide | simp [Region.binds] at hbnd)
          | 4, ho => obtain rfl := Option.some.inj ho; first | (simp at he; done) | (simp at he; subst he; decide) | (simp at he; rcases he with rfl | rfl <;> first | decide | simp [Region.binds] at hbnd) | (simp at he; rcases he with rfl | rfl | rfl <;> first | decide | simp [Region.binds] at hbnd) | (simp at he; rcases he with rfl | rfl | rfl | rfl | rfl | rfl | rfl | rfl | rfl | rfl | rfl | rfl | rfl | rfl <;> first | decide | simp [Region.binds] at hbnd) | (simp at he; rcases he with rfl | rfl | rfl | rfl | rfl | rfl | rfl | rfl | rfl | rfl | rfl | rfl | rfl | rfl | rfl <;> first | decide | simp [Region.binds] at hbnd)
          | 5, ho => obtain rfl := Option.some.inj ho; first | (simp at he; done) | (simp at he; subst he; decide) | (simp at he; rcases he with rfl | rfl <;> first | decide | simp [Region.binds] at hbnd) | (simp at he; rcases he with rfl | rfl | rfl <;> first | decide | simp [Region.binds] at hbnd) | (simp at he; rcases he with rfl | rfl | rfl | rfl | rfl | rfl | rfl | rfl | rfl | rfl | rfl | rfl | rfl | rfl <;> first | decide | simp [Region.binds] at hbnd) | (simp at he; rcases he with rfl | rfl | rfl | rfl | rfl | rfl | rfl | rfl | rfl | rfl | rfl | rfl | rfl | rfl | rfl <;> first | decide | simp [Region.binds] at hbnd)
          | 6, ho => obtain rfl := Option.some.inj ho; first | (simp at he; done) | (simp at he; subst he; decide) | (simp at he; rcases he with rfl | rfl <;> first | decide | simp [Region.binds] at hbnd) | (simp at he; rcases he with rfl | rfl | rfl <;> first | decide | simp [Region.binds] at hbnd) | (simp at he; rcases he with rfl | rfl | rfl | rfl | rfl | rfl | rfl | rfl | rfl | rfl | rfl | rfl | rfl | rfl <;> first | decide | simp [Region.binds] at hbnd) | (simp at he; rcases he with rfl | rfl | rfl | rfl | rfl | rfl | rfl | rfl | rfl | rfl | rfl | rfl | rfl | rfl | rfl <;> first | decide | simp [Region.binds] at hbnd)
          | 7, ho => obtain rfl := Option.some.inj ho; first | (simp at he; done) | (simp at he; subst he; decide) | (simp at he; rcases he with rfl | rfl <;> first | decide | simp [Region.binds] at hbnd) | (simp at he; rcases he with rfl | rfl | rfl <;> first | decide | simp [Region.binds] at hbnd) | (simp at he; rcases he with rfl | rfl | rfl | rfl | rfl | rfl | rfl | rfl | rfl | rfl | rfl | rfl | rfl | rfl <;> first | decide | simp [Region.binds] at hbnd) | (simp at he; rcases he with rfl | rfl | rfl | rfl | rfl | rfl | rfl | rfl | rfl | rfl | rfl | rfl | rfl | rfl | rfl <;> first | decide | simp [Region.binds] at hbnd)
          | 8, ho => obtain rfl := Option.some.inj ho; first | (simp at he; done) | (simp at he; subst he; decide) | (simp at he; rcases he with rfl | rfl <;> first | decide | simp [Region.binds] at hbnd) | (simp at he; rcases he with rfl | rfl | rfl <;> first | decide | simp [Region.binds] at hbnd) | (simp at he; rcases he with rfl | rfl | rfl | rfl | rfl | rfl | rfl | rfl | rfl | rfl | rfl | rfl | rfl | rfl <;> first | decide | simp [Region.binds] at hbnd) | (simp at he; rcases he with rfl | rfl | rfl | rfl | rfl | rfl | rfl | rfl | rfl | rfl | rfl | rfl | rfl | rfl | rfl <;> first | decide | simp [Region.binds] at hbnd)
          | 9, ho => obtain rfl := Option.some.inj ho; first | (simp at he; done) | (simp at he; subst he; decide) | (simp at he; rcases he with rfl | rfl <;> first | decide | simp [Region.binds] at hbnd) | (simp at he; rcases he with rfl | rfl | rfl <;> first | decide | simp [Region.binds] at hbnd) | (simp at he; rcases he with rfl | rfl | rfl | rfl | rfl | rfl | rfl | rfl | rfl | rfl | rfl | rfl | rfl | rfl <;> first | decide | simp [Region.binds] at hbnd) | (simp at he; rcases he with rfl | rfl | rfl | rfl | rfl | rfl | rfl | rfl | rfl | rfl | rfl | rfl | rfl | rfl | rfl <;> first | decide | simp [Region.binds] at hbnd)
          | 10, ho => obtain rfl := Option.some.inj ho; first | (simp at he; done) | (simp at he; subst he; decide) | (simp at he; rcases he with rfl | rfl <;> first | decide | simp [Region.binds] at hbnd) | (simp at he; rcases he with rfl | rfl | rfl <;> first | decide | simp [Region.binds] at hbnd) | (simp at he; rcases he with rfl | rfl | rfl | rfl | rfl | rfl | rfl | rfl | rfl | rfl | rfl | rfl | rfl | rfl <;> first | decide | simp [Region.binds] at hbnd) | (simp at he; rcases he with rfl | rfl | rfl | rfl | rfl | rfl | rfl | rfl | rfl | rfl | rfl | rfl | rfl | rfl | rfl <;> first | decide | simp [Region.binds] at hbnd)
          | 11, ho => obtain rfl := Option.some.inj ho; first | (simp at he; done) | (simp at he; subst he; decide) | (simp at he; rcases he with rfl | rfl <;> first | decide | simp [Region.binds] at hbnd) | (simp at he; rcases he with rfl | rfl | rfl <;> first | decide | simp [Region.binds] at hbnd) | (simp at he; rcases he with rfl | rfl | rfl | rfl | rfl | rfl | rfl | rfl | rfl | rfl | rfl | rfl | rfl | rfl <;> first | decide | simp [Region.binds] at hbnd) | (simp at he; rcases he with rfl | rfl | rfl | rfl | rfl | rfl | rfl | rfl | rfl | rfl | rfl | rfl | rfl | rfl | rfl <;> first | decide | simp [Region.binds] at hbnd)
          | 12, ho => obtain rfl := Option.some.inj ho; first | (simp at he; done) | (simp at he; subst he; decide) | (simp at he; rcases he with rfl | rfl <;> first | decide | simp [Region.binds] at hbnd) | (simp at he; rcases he with rfl | rfl | rfl <;> first | decide | simp [Region.binds] at hbnd) | (simp at he; rcases he with rfl | rfl | rfl | rfl | rfl | rfl | rfl | rfl | rfl | rfl | rfl | rfl | rfl | rfl <;> first | decide | simp [Region.binds] at hbnd) | (simp at he; rcases he with rfl | rfl | rfl | rfl | rfl | rfl | rfl | rfl | rfl | rfl | rfl | rfl | rfl | rfl | rfl <;> first | decide | simp [Region.binds] at hbnd)
          | n + 13, ho => simp at ho
        case hstep =>
          clear hu2 ho2
          intro L a w' i o ho hL hd hI
          obtain ⟨v36, v37, v38, v39, v40, v41, v42, v43, v44, v45, v46, v47, hI, rfl⟩ := hI
          match i, ho, hL with
          | 0, ho, hL =>
            obtain rfl := Option.some.inj ho
            refine op_wp ho rfl ?_
            clear ho
            clear hd
            unfold fr5
            have HI := hide hI
            clear hI
            go_wp2_with fail
            exact ⟨_, _, _, _, _, _, _, _, _, _, _, _, (unhide HI).l0, rfl⟩
          | 1, ho, hL =>
            obtain rfl := Option.some.inj ho
            refine op_wp ho rfl ?_
            clear ho
            clear hd
            unfold fr5
            have HI := hide hI
            clear hI
            go_wp2_with fail
            exact ⟨_, _, _, _, _, _, _, _, _, _, _, _, (unhide HI).l1, rfl⟩
          | 2, ho, hL =>
            obtain rfl := Option.some.inj ho
            refine op_wp ho rfl ?_
            clear ho
            have e1 := hI.o1 (hd ⟨1, .data⟩ (by simp) rfl)
            subst e1
            clear hd
            unfold fr5
            have HI := hide hI
            clear hI
            go_wp2_with fail
            exact ⟨_, _, _, _, _, _, _, _, _, _, _, _, (unhide HI).l2, rfl⟩
          | 3, ho, hL =>
            obtain rfl := Option.some.inj ho
            refine op_wp ho rfl ?_
            clear ho
            have e2 := hI.o2 (hd ⟨2, .data⟩ (by simp) rfl)
            subst e2
            clear hd
            unfold fr5
            have HI := hide hI
            clear hI
            go_wp2_with fail
            exact ⟨_, _, _, _, _, _, _, _, _, _, _, _, (unhide HI).l3, rfl⟩
          | 4, ho, hL =>
            have hop : o.op = .load 168 (.tmp 39) := by obtain rfl := Option.some.inj ho; rfl
            have hds : o.dst = some 40 := by obtain rfl := Option.some.inj ho; rfl
            have hgd : o.guard = none := by obtain rfl := Option.some.inj ho; rfl
            have e3 := hI.o3 (hd ⟨3, .data⟩ (by obtain rfl := Option.some.inj ho; simp) rfl)
            subst e3
            refine op_wp ho hgd ?_
            clear ho hgd
            refine wp_load_mid 168 (.tmp 39) hop b 0 rfl (H.s.l.map U) _ (HR5.s (h := ⟨H.s, T, H.n + m⟩) ⟨hI.row0 (hI.no4 hL)⟩) Tryz.underlying168 rfl info168 ?_
            rw [hds]
            exact ⟨_, _, _, _, _, _, _, _, _, _, _, _, hI.l4, rfl⟩
          | 5, ho, hL =>
            obtain rfl := Option.some.inj ho
            refine op_wp ho rfl ?_
            clear ho
            clear hd
            unfold fr5
            have HI := hide hI
            clear hI
            go_wp2_with fail
            exact ⟨_, _, _, _, _, _, _, _, _, _, _, _, (unhide HI).l5, rfl⟩
          | 6, ho, hL =>
            obtain rfl := Option.some.inj ho
            refine op_wp ho rfl ?_
            clear ho
            have e5 := hI.o5 (hd ⟨5, .data⟩ (by simp) rfl)
            subst e5
            clear hd
            unfold fr5
            have HI := hide hI
            clear hI
            go_wp2_with fail
            exact ⟨_, _, _, _, _, _, _, _, _, _, _, _, (unhide HI).l6, rfl⟩
          | 7, ho, hL =>
            obtain rfl := Option.some.inj ho
            refine op_wp ho rfl ?_
            clear ho
            have e6 := hI.o6 (hd ⟨6, .data⟩ (by simp) rfl)
            subst e6
            clear hd
            unfold fr5
            have HI := hide hI
            clear hI
            go_wp2_with fail
            exact ⟨_, _, _, _, _, _, _, _, _, _, _, _, (unhide HI).l7, rfl⟩
          | 8, ho, hL =>
            have hop : o.op = .load 171 (.tmp 43) := by obtain rfl := Option.some.inj ho; rfl
            have hds : o.dst = some 44 := by obtain rfl := Option.some.inj ho; rfl
            have hgd : o.guard = none := by obtain rfl := Option.some.inj ho; rfl
            have e7 := hI.o7 (hd ⟨7, .data⟩ (by obtain rfl := Option.some.inj ho; simp) rfl)
            subst e7
            refine op_wp ho hgd ?_
            clear ho hgd
            refine wp_load_mid 171 (.tmp 43) hop b 8 rfl (T.map B) _ (HR5.t (h := ⟨H.s, T, H.n + m⟩) ⟨hI.row0 (hI.no8 hL)⟩) Tryz.underlying171 rfl (by rw [List.length_map, hT]; exact info171) ?_
            rw [hds]
            exact ⟨_, _, _, _, _, _, _, _, _, _, _, _, hI.l8, rfl⟩
          | 9, ho, hL =>
            obtain rfl := Option.some.inj ho
            refine op_wp ho rfl ?_
            clear ho
            have h4 : L 4 = true := hd ⟨4, .data⟩ (by simp) rfl
            have h8 : L 8 = true := hd ⟨8, .data⟩ (by simp) rfl
            have e4 := hI.o4 h4
            have e8 := hI.o8 h8
            subst e4 e8
            clear hd
            unfold fr5
            have HI := hide hI
            have HK := hide (And.intro h4 h8)
            clear hI h4 h8
            go_wp2_with fail
            refine (mix_any H.s T w' hT).mono ?_
            rintro e w3 ⟨rfl, hbl⟩
            exact ⟨_, _, _, _, _, _, _, _, _, _, _, _, ((unhide HI).below hbl).l9 (unhide HK), rfl⟩
          | 10, ho, hL =>
            obtain rfl := Option.some.inj ho
            refine op_wp ho rfl ?_
            clear ho
            have e0 := hI.o0 (hd ⟨0, .data⟩ (by simp) rfl)
            subst e0
            clear hd
            unfold fr5
            have HI := hide hI
            clear hI
            go_wp2_with fail
            exact ⟨_, _, _, _, _, _, _, _, _, _, _, _, (unhide HI).l10, rfl⟩
          | 11, ho, hL =>
            obtain rfl := Option.some.inj ho
            refine op_wp ho rfl ?_
            clear ho
            have e10 := hI.o10 (hd ⟨10, .data⟩ (by simp) rfl)
            subst e10
            clear hd
            unfold fr5
            have HI := hide hI
            clear hI
            go_wp2_with fail
            exact ⟨_, _, _, _, _, _, _, _, _, _, _, _, (unhide HI).l11, rfl⟩
          | 12, ho, hL =>
            have hop : o.op = .store 168 (.tmp 47) (.tmp 45) := by obtain rfl := Option.some.inj ho; rfl
            have hds : o.dst = none := by obtain rfl := Option.some.inj ho; rfl
            have hgd : o.guard = none := by obtain rfl := Option.some.inj ho; rfl
            have h9 : L 9 = true := hd ⟨9, .data⟩ (by obtain rfl := Option.some.inj ho; simp) rfl
            have e9 := hI.o9 h9
            subst e9
            have e11 := hI.o11 (hd ⟨11, .data⟩ (by obtain rfl := Option.some.inj ho; simp) rfl)
            subst e11
            refine op_wp ho hgd ?_
            clear ho hgd
            have hrow0 := hI.row0 hL
            refine wp_store_at 168 (.tmp 47) (.tmp 45) hop b 0 (cU (mx H.s T).l) rfl rfl 173 (hc ⟨H.s, T, H.n + m⟩) hrow0 (sz65 _) (by rw [hc_size _ hT, cU_size]; show 0 + 8 ≤ 73; omega) (cU_one _) ?_
            rw [hds]
            have e := hc_sets ⟨H.s, T, H.n + m⟩ (mx H.s T)
            have e' : ((hc ⟨H.s, T, H.n + m⟩).toList.take 0 ++ (cU (mx H.s T).l).toList ++ (hc ⟨H.s, T, H.n + m⟩).toList.drop (0 + (cU (mx H.s T).l).toList.length)).toArray = hc ⟨mx H.s T, T, H.n + m⟩ := by
              have := congrArg List.toArray e
              simpa [cU] using this
            rw [e']
            exact ⟨_, _, _, _, _, _, _, _, _, _, _, _, hI.l12 hL h9, rfl⟩
          | n + 13, ho, hL => simp at ho
        case hend =>
          intro L a w' hL hI
          obtain ⟨v36, v37, v38, v39, v40, v41, v42, v43, v44, v45, v46, v47, hI, rfl⟩ := hI
          have hrow := hI.row
          rw [hL 12 (by decide)] at hrow
          have hon := hI.on
          have hrow3 : RowK w' b (hc ⟨mx H.s T, T, H.n + m⟩) 173 := hrow
          clear hrow hI hL hu2 ho2
          have HR3 := hide hrow3
          clear hrow3
          unfold fr5
          go_wp2
          go_roundw
          case rel =>
            have hnx := wr_next h s k H R T m (unhide HH) (unhide HR) (unhide HHt) (by have := unhide HM; have := unhide HRE; omega) (by have := unhide HM; omega) (by have := unhide HM; omega) (by have := unhide HTT; rw [unhide HRE] at this; exact this)
            rw [if_pos (unhide H0)] at hnx
            refine ⟨k + m, by have := unhide HRl; omega, ?_, by rw [hnx]; exact unhide HR3, hon⟩
            rw [ext_eq, ← unhide HR, List.drop_drop]
          case measure =>
            rw [ext_eq]
            have := unhide HM
            simp [strLen, ByteArray.size]
            omega
      · have hd0 : (((H.n : Int) + (m : Int)) % 64 == 0) = false := by rw [beq_eq_false_iff_ne]; omega
        have H0 := hide h0
        clear h0
        go_wp2
        go_roundw
        case rel =>
          have hnx := wr_next h s k H R T m (unhide HH) (unhide HR) (unhide HHt) (by have := unhide HM; have := unhide HRE; omega) (by have := unhide HM; omega) (by have := unhide HM; omega) (by have := unhide HTT; rw [unhide HRE] at this; exact this)
          rw [if_neg (unhide H0)] at hnx
          have hrow2 := (unhide HRow1).set 72 (.int .i64 ((H.n + m : Nat) : Int))
          rw [hc_setn _ _ hT] at hrow2
          refine ⟨k + m, by have := unhide HRl; omega, ?_, by rw [hnx]; exact hrow2, hon1.trans (OnlyH.setCell _ _ _)⟩
          rw [ext_eq, ← unhide HR, List.drop_drop]
        case measure =>
          rw [ext_eq]
          have := unhide HM
          simp [strLen, ByteArray.size]
          omega
    · have hkk : k = s.length := by omega
      have hd0 : s.drop k = [] := List.drop_eq_nil_of_le (by omega)
      have ht0 : s.take k = s := List.take_of_length_le (by omega)
      rw [ht0] at hrow
      rw [hd0]
      have HR := hide hrow
      clear hrow hkk hd0 ht0
      go_wp2
      go_end0
      exact ⟨rfl, unhide HR, hon⟩
end Go.Proofs.YtmjaobddgaglhaaGreatDoor
