import Derived.Test.YteejnfkbjdpccaaLbf
import Derived.BigQuiet
namespace Go.Proofs.Yteejnfkbjdpccaa
open Go.RowKit Fl
attribute [local go_sem] run_storeF
set_option maxHeartbeats 4000000
set_option maxRecDepth 8000
theorem new_any (r b : Nat) (w : World) : Calls Try.prog 8 #[fl r, fl b] w fun e w' =>
    (if amt r && amt b && !(F.order b 0 == some .eq) then e = .returned (.tuple #[ptr w.heap.size, I 0]) ∧ w'.heap[w.heap.size]? = some (.cells #[fl r, fl b, .slice none 0 0] 57 (0, 0)) else e = .returned (.tuple #[.pointer none, I 240])) ∧ Below w.heap.size w w' := by
  have HA := hide (fun x W => isAmount_any x W)
  have HF : FloatKind.f32.format = F := rfl
  have ZN := hide (heap_alloc_new w (.cells #[fl r, fl b, .slice none 0 0] 57))
  cases h1 : amt r <;> cases h2 : amt b <;> cases h3 : (F.order b 0 == some .eq) <;> simp only [Bool.and_true, Bool.and_false, Bool.not_true, Bool.not_false, if_true, if_false, Bool.false_eq_true]
  all_goals go_enter Try.func8, Try.ntmps8
  all_goals go_wp2_with (refine (unhide HA _ _).mono ?_; rintro e w1 ⟨rfl, rfl⟩; simp only [h1, h2])
  all_goals go_ret2
  all_goals first
    | exact ⟨rfl, Below.refl _ _⟩
    | exact ⟨⟨rfl, unhide ZN⟩, (Below.refl _ _).alloc (Nat.le_refl _) _⟩
theorem Below.like {b : Nat} {a w w' : World} (h : Below b a w) (e : w'.heap = w.heap) (e1 : w'.os = w.os) (e2 : w'.tape = w.tape) (e3 : w'.output = w.output) : Below b a w' :=
  ⟨e1.trans h.os, e2.trans h.tape, e3.trans h.output, by rw [e]; exact h.size, fun k hk => by rw [e]; exact h.block k hk⟩
/-- What holds behind a call within a drawn region. -/
theorem reg_step {w W0 W w2 : World} (h : Below w.heap.size w W0) (b : Below W.heap.size W w2) (e : W.heap = W0.heap) (e1 : W.os = W0.os) (e2 : W.tape = W0.tape) (e3 : W.output = W0.output) : Below w.heap.size w w2 ∧ Below W0.heap.size W0 w2 := by
  have h1 : Below W0.heap.size W0 W := Below.like (Below.refl _ _) e e1 e2 e3
  have h2 := h1.trans (b.mono h1.size)
  exact ⟨h.trans (h2.mono h.size), h2⟩
theorem level_f {p : Nat} {x : Li} {w : World} (h : LAt 57 65 p x w) (hx : x.Ok) (s : Bs) (now : Int) :
    Calls Try.prog 15 #[ptr p, S s, I now] w fun e w' => e = .returned (fl (x.level s now)) ∧ Below w.heap.size w w' := by
  have H1 := hide (bucket_any h hx s)
  have hk := has_ok hx s
  have hn := nr_b now
  have H2 := hide (fun W => nearest_any now W)
  have H3 := hide (fun W => gone_any (has x.b x.ks s) (nr now) W hk.2.1 hk.2.2 hn.1 hn.2)
  have H4 := hide (fun (W W0 : World) (b : Below w.heap.size w W0) (e : W.heap = W0.heap) (e1 : W.os = W0.os) (e2 : W.tape = W0.tape) (e3 : W.output = W0.output) => level_any (h.below (Below.like b e e1 e2 e3)) hx (has x.b x.ks s) hk.1 (gon (has x.b x.ks s).tm (nr now)) (by have := gon_le (t := (has x.b x.ks s).tm) (n := nr now) hk.2.1 hn.2; omega))
  have hl := h.lt
  have hR : x.level s now = lvl x.r x.b (has x.b x.ks s).lv (gon (has x.b x.ks s).tm (nr now)) := rfl
  rw [hR]
  clear hR h hx hk hn
  generalize has x.b x.ks s = k at *
  generalize gon k.tm (nr now) = G at *
  generalize nr now = m at *
  generalize lvl x.r x.b k.lv G = R at *
  obtain ⟨k0, k1, k2⟩ := k
  go_enter Try.func15, Try.ntmps15
  go_wp2_with fail
  refine (unhide H1).mono ?_
  rintro e w1 ⟨rfl, b1⟩
  have B1 := hide (b1.alloc b1.size (.cells #[S k0, fl k1, I k2] 65))
  have hl1 : p < w1.heap.size := Nat.lt_of_lt_of_le hl b1.size
  clear b1
  have z0 := cell_of_row (w1.alloc (.cells #[S k0, fl k1, I k2] 65)) w1.heap.size 0 _ 65 (0, 0) (heap_alloc_new _ _)
  have z1 := cell_of_row (w1.alloc (.cells #[S k0, fl k1, I k2] 65)) w1.heap.size 1 _ 65 (0, 0) (heap_alloc_new _ _)
  have z2 := cell_of_row (w1.alloc (.cells #[S k0, fl k1, I k2] 65)) w1.heap.size 2 _ 65 (0, 0) (heap_alloc_new _ _)
  have hzl : w1.heap.size < (w1.alloc (.cells #[S k0, fl k1, I k2] 65)).heap.size := by simp
  go_wp2_with fail
  generalize w1.alloc (.cells #[S k0, fl k1, I k2] 65) = W1 at *
  generalize w1.heap.size = Z at *
  go_region_with (first
    | (refine (unhide H2 _).mono ?_; rintro e w2 ⟨rfl, rfl⟩)
    | (refine (unhide H3 _).mono ?_; rintro e w2 ⟨rfl, b2⟩; obtain ⟨bb1, bb2⟩ := reg_step (unhide B1) b2 rfl rfl rfl rfl; have y0 := (bb2.cell hzl).trans z0; have y1 := (bb2.cell hzl).trans z1; have y2 := (bb2.cell hzl).trans z2; have BB := hide bb1; clear b2 bb1 bb2)
    | (refine (unhide H4 _ _ (unhide BB) rfl rfl rfl rfl).mono ?_; rintro e w3 ⟨rfl, b3⟩; have B3 := hide (reg_step (unhide BB) b3 rfl rfl rfl rfl).1; clear b3))
  all_goals go_wp2
  all_goals go_ret
  all_goals exact ⟨rfl, (unhide B3)⟩
end Go.Proofs.Yteejnfkbjdpccaa
