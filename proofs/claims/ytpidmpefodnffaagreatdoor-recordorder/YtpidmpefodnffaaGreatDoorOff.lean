import Derived.Test.YtpidmpefodnffaaGreatDoorRgof
namespace Go.Proofs.YtpidmpefodnffaaGreatDoor
open Go.RowKit
set_option maxHeartbeats 4000000
set_option maxRecDepth 8000
/-- What holds between two operations of OfFamily's drawn region. -/
structure Kf (W1 : World) (e id : Int) (su k1 v1 k2 v2 : Bs) (c : Nat → Nat) (L : Nat → Bool) (W : World) : Prop where
  b : Below W1.heap.size W1 W
  x : L 5 = true → W.heap[c 0]? = some (.cells #[I e, I id] 115 (0, 0))
  y : L 13 = true → W.heap[c 1]? = some (.cells #[S su, I id] 120 (0, 0))
  l1 : L 6 = true → ∀ W', Below W.heap.size W W' → Calls Tryz.prog 77 #[.agg #[.slice (some ⟨c 2, 0, none⟩) 3 3, .slice none 0 0]] W' fun e w' => e = .returned (.agg #[S k1, S v1]) ∧ Below W'.heap.size W' w'
  l2 : L 14 = true → ∀ W', Below W.heap.size W W' → Calls Tryz.prog 77 #[.agg #[.slice (some ⟨c 3, 0, none⟩) 4 4, .slice none 0 0]] W' fun e w' => e = .returned (.agg #[S k2, S v2]) ∧ Below W'.heap.size W' w'
  s : L 16 = true → W.heap[c 4]? = some (.cells #[S k1, S v1, S k2, S v2] 30 (0, 0))
  p : L 17 = true → L 16 = true
theorem Kf.step {W1 : World} {e id : Int} {su k1 v1 k2 v2 : Bs} {c : Nat → Nat} {L : Nat → Bool} {W W2 : World} (h : Kf W1 e id su k1 v1 k2 v2 c L W) (hb : Below W.heap.size W W2) (i : Nat) (hi : i ∉ ([5, 6, 13, 14, 16, 17] : List Nat)) : Kf W1 e id su k1 v1 k2 v2 c (upd L i) W2 := by
  have u : ∀ k, k ∈ ([5, 6, 13, 14, 16, 17] : List Nat) → upd L i k = L k := fun k hk => upd_ne (fun q => hi (q ▸ hk))
  refine ⟨h.b.trans (hb.mono h.b.size), fun q => ?_, fun q => ?_, fun q W' hW' => ?_, fun q W' hW' => ?_, fun q => ?_, fun q => ?_⟩
  · rw [u 5 (by decide)] at q; exact (hb.block _ (lt_of_row (h.x q))).trans (h.x q)
  · rw [u 13 (by decide)] at q; exact (hb.block _ (lt_of_row (h.y q))).trans (h.y q)
  · rw [u 6 (by decide)] at q; exact h.l1 q W' (hb.trans (hW'.mono hb.size))
  · rw [u 14 (by decide)] at q; exact h.l2 q W' (hb.trans (hW'.mono hb.size))
  · rw [u 16 (by decide)] at q; exact (hb.block _ (lt_of_row (h.s q))).trans (h.s q)
  · rw [u 17 (by decide)] at q; rw [u 16 (by decide)]; exact h.p q
/-- The choice with one part new. -/
def nwc (c : Nat → Nat) (k v : Nat) : Nat → Nat := fun j => if j = k then v else c j
theorem Kf.box1 {W1 : World} {e id : Int} {su k1 v1 k2 v2 : Bs} {c : Nat → Nat} {L : Nat → Bool} {W W2 : World} (h : Kf W1 e id su k1 v1 k2 v2 c L W) (hb : Below W.heap.size W W2) (z : Nat) (hz : W2.heap[z]? = some (.cells #[I e, I id] 115 (0, 0))) : Kf W1 e id su k1 v1 k2 v2 (nwc c 0 z) (upd L 5) W2 := by
  refine ⟨h.b.trans (hb.mono h.b.size), fun q => ?_, fun q => ?_, fun q W' hW' => ?_, fun q W' hW' => ?_, fun q => ?_, fun q => ?_⟩
  · exact hz
  · rw [upd_ne (by decide)] at q; exact (hb.block _ (lt_of_row (h.y q))).trans (h.y q)
  · rw [upd_ne (by decide)] at q; exact h.l1 q W' (hb.trans (hW'.mono hb.size))
  · rw [upd_ne (by decide)] at q; exact h.l2 q W' (hb.trans (hW'.mono hb.size))
  · rw [upd_ne (by decide)] at q; exact (hb.block _ (lt_of_row (h.s q))).trans (h.s q)
  · rw [upd_ne (by decide)] at q ⊢; exact h.p q
theorem Kf.box2 {W1 : World} {e id : Int} {su k1 v1 k2 v2 : Bs} {c : Nat → Nat} {L : Nat → Bool} {W W2 : World} (h : Kf W1 e id su k1 v1 k2 v2 c L W) (hb : Below W.heap.size W W2) (z : Nat) (hz : W2.heap[z]? = some (.cells #[S su, I id] 120 (0, 0))) : Kf W1 e id su k1 v1 k2 v2 (nwc c 1 z) (upd L 13) W2 := by
  refine ⟨h.b.trans (hb.mono h.b.size), fun q => ?_, fun q => ?_, fun q W' hW' => ?_, fun q W' hW' => ?_, fun q => ?_, fun q => ?_⟩
  · rw [upd_ne (by decide)] at q; exact (hb.block _ (lt_of_row (h.x q))).trans (h.x q)
  · exact hz
  · rw [upd_ne (by decide)] at q; exact h.l1 q W' (hb.trans (hW'.mono hb.size))
  · rw [upd_ne (by decide)] at q; exact h.l2 q W' (hb.trans (hW'.mono hb.size))
  · rw [upd_ne (by decide)] at q; exact (hb.block _ (lt_of_row (h.s q))).trans (h.s q)
  · rw [upd_ne (by decide)] at q ⊢; exact h.p q
theorem Kf.lay1 {W1 : World} {e id : Int} {su k1 v1 k2 v2 : Bs} {c : Nat → Nat} {L : Nat → Bool} {W W2 : World} (h : Kf W1 e id su k1 v1 k2 v2 c L W) (hb : Below W.heap.size W W2) (z : Nat) (hz : ∀ W', Below W2.heap.size W2 W' → Calls Tryz.prog 77 #[.agg #[.slice (some ⟨z, 0, none⟩) 3 3, .slice none 0 0]] W' fun e w' => e = .returned (.agg #[S k1, S v1]) ∧ Below W'.heap.size W' w') : Kf W1 e id su k1 v1 k2 v2 (nwc c 2 z) (upd L 6) W2 := by
  refine ⟨h.b.trans (hb.mono h.b.size), fun q => ?_, fun q => ?_, fun q W' hW' => ?_, fun q W' hW' => ?_, fun q => ?_, fun q => ?_⟩
  · rw [upd_ne (by decide)] at q; exact (hb.block _ (lt_of_row (h.x q))).trans (h.x q)
  · rw [upd_ne (by decide)] at q; exact (hb.block _ (lt_of_row (h.y q))).trans (h.y q)
  · exact hz W' hW'
  · rw [upd_ne (by decide)] at q; exact h.l2 q W' (hb.trans (hW'.mono hb.size))
  · rw [upd_ne (by decide)] at q; exact (hb.block _ (lt_of_row (h.s q))).trans (h.s q)
  · rw [upd_ne (by decide)] at q ⊢; exact h.p q
theorem Kf.lay2 {W1 : World} {e id : Int} {su k1 v1 k2 v2 : Bs} {c : Nat → Nat} {L : Nat → Bool} {W W2 : World} (h : Kf W1 e id su k1 v1 k2 v2 c L W) (hb : Below W.heap.size W W2) (z : Nat) (hz : ∀ W', Below W2.heap.size W2 W' → Calls Tryz.prog 77 #[.agg #[.slice (some ⟨z, 0, none⟩) 4 4, .slice none 0 0]] W' fun e w' => e = .returned (.agg #[S k2, S v2]) ∧ Below W'.heap.size W' w') : Kf W1 e id su k1 v1 k2 v2 (nwc c 3 z) (upd L 14) W2 := by
  refine ⟨h.b.trans (hb.mono h.b.size), fun q => ?_, fun q => ?_, fun q W' hW' => ?_, fun q W' hW' => ?_, fun q => ?_, fun q => ?_⟩
  · rw [upd_ne (by decide)] at q; exact (hb.block _ (lt_of_row (h.x q))).trans (h.x q)
  · rw [upd_ne (by decide)] at q; exact (hb.block _ (lt_of_row (h.y q))).trans (h.y q)
  · rw [upd_ne (by decide)] at q; exact h.l1 q W' (hb.trans (hW'.mono hb.size))
  · exact hz W' hW'
  · rw [upd_ne (by decide)] at q; exact (hb.block _ (lt_of_row (h.s q))).trans (h.s q)
  · rw [upd_ne (by decide)] at q ⊢; exact h.p q
theorem Kf.sl {W1 : World} {e id : Int} {su k1 v1 k2 v2 : Bs} {c : Nat → Nat} {L : Nat → Bool} {W W2 : World} (h : Kf W1 e id su k1 v1 k2 v2 c L W) (hb : Below W.heap.size W W2) (z : Nat) (hz : W2.heap[z]? = some (.cells #[S k1, S v1, S k2, S v2] 30 (0, 0))) : Kf W1 e id su k1 v1 k2 v2 (nwc c 4 z) (upd L 16) W2 := by
  refine ⟨h.b.trans (hb.mono h.b.size), fun q => ?_, fun q => ?_, fun q W' hW' => ?_, fun q W' hW' => ?_, fun q => ?_, fun q => ?_⟩
  · rw [upd_ne (by decide)] at q; exact (hb.block _ (lt_of_row (h.x q))).trans (h.x q)
  · rw [upd_ne (by decide)] at q; exact (hb.block _ (lt_of_row (h.y q))).trans (h.y q)
  · rw [upd_ne (by decide)] at q; exact h.l1 q W' (hb.trans (hW'.mono hb.size))
  · rw [upd_ne (by decide)] at q; exact h.l2 q W' (hb.trans (hW'.mono hb.size))
  · exact hz
  · simp [upd]
theorem same0 (X : Nat) (F : Value) (en ii : Int) (su k1 v1 k2 v2 : Bs) (c : Nat → Nat) (z : Nat) (L : Nat → Bool) (h : L 5 = false) : ∀ j, L j = true → vrof3 X F en ii su k1 v1 k2 v2 (nwc c 0 z) j = vrof3 X F en ii su k1 v1 k2 v2 c j := fun j hj => by
  match j, hj with
  | 0, hj => rfl
  | 1, hj => rfl
  | 2, hj => rfl
  | 3, hj => rfl
  | 4, hj => rfl
  | 5, hj => rw [h] at hj; cases hj
  | 6, hj => rfl
  | 7, hj => rfl
  | 8, hj => rfl
  | 9, hj => rfl
  | 10, hj => rfl
  | 11, hj => rfl
  | 12, hj => rfl
  | 13, hj => rfl
  | 14, hj => rfl
  | 15, hj => rfl
  | 16, hj => rfl
  | 17, hj => rfl
  | 18, hj => rfl
  | (q + 19), hj => rfl
theorem same1 (X : Nat) (F : Value) (en ii : Int) (su k1 v1 k2 v2 : Bs) (c : Nat → Nat) (z : Nat) (L : Nat → Bool) (h : L 13 = false) : ∀ j, L j = true → vrof3 X F en ii su k1 v1 k2 v2 (nwc c 1 z) j = vrof3 X F en ii su k1 v1 k2 v2 c j := fun j hj => by
  match j, hj with
  | 0, hj => rfl
  | 1, hj => rfl
  | 2, hj => rfl
  | 3, hj => rfl
  | 4, hj => rfl
  | 5, hj => rfl
  | 6, hj => rfl
  | 7, hj => rfl
  | 8, hj => rfl
  | 9, hj => rfl
  | 10, hj => rfl
  | 11, hj => rfl
  | 12, hj => rfl
  | 13, hj => rw [h] at hj; cases hj
  | 14, hj => rfl
  | 15, hj => rfl
  | 16, hj => rfl
  | 17, hj => rfl
  | 18, hj => rfl
  | (q + 19), hj => rfl
theorem same2 (X : Nat) (F : Value) (en ii : Int) (su k1 v1 k2 v2 : Bs) (c : Nat → Nat) (z : Nat) (L : Nat → Bool) (h : L 6 = false) : ∀ j, L j = true → vrof3 X F en ii su k1 v1 k2 v2 (nwc c 2 z) j = vrof3 X F en ii su k1 v1 k2 v2 c j := fun j hj => by
  match j, hj with
  | 0, hj => rfl
  | 1, hj => rfl
  | 2, hj => rfl
  | 3, hj => rfl
  | 4, hj => rfl
  | 5, hj => rfl
  | 6, hj => rw [h] at hj; cases hj
  | 7, hj => rfl
  | 8, hj => rfl
  | 9, hj => rfl
  | 10, hj => rfl
  | 11, hj => rfl
  | 12, hj => rfl
  | 13, hj => rfl
  | 14, hj => rfl
  | 15, hj => rfl
  | 16, hj => rfl
  | 17, hj => rfl
  | 18, hj => rfl
  | (q + 19), hj => rfl
theorem same3 (X : Nat) (F : Value) (en ii : Int) (su k1 v1 k2 v2 : Bs) (c : Nat → Nat) (z : Nat) (L : Nat → Bool) (h : L 14 = false) : ∀ j, L j = true → vrof3 X F en ii su k1 v1 k2 v2 (nwc c 3 z) j = vrof3 X F en ii su k1 v1 k2 v2 c j := fun j hj => by
  match j, hj with
  | 0, hj => rfl
  | 1, hj => rfl
  | 2, hj => rfl
  | 3, hj => rfl
  | 4, hj => rfl
  | 5, hj => rfl
  | 6, hj => rfl
  | 7, hj => rfl
  | 8, hj => rfl
  | 9, hj => rfl
  | 10, hj => rfl
  | 11, hj => rfl
  | 12, hj => rfl
  | 13, hj => rfl
  | 14, hj => rw [h] at hj; cases hj
  | 15, hj => rfl
  | 16, hj => rfl
  | 17, hj => rfl
  | 18, hj => rfl
  | (q + 19), hj => rfl
theorem same4 (X : Nat) (F : Value) (en ii : Int) (su k1 v1 k2 v2 : Bs) (c : Nat → Nat) (z : Nat) (L : Nat → Bool) (h : L 16 = false) (hp : L 17 = true → L 16 = true) : ∀ j, L j = true → vrof3 X F en ii su k1 v1 k2 v2 (nwc c 4 z) j = vrof3 X F en ii su k1 v1 k2 v2 c j := fun j hj => by
  match j, hj with
  | 0, hj => rfl
  | 1, hj => rfl
  | 2, hj => rfl
  | 3, hj => rfl
  | 4, hj => rfl
  | 5, hj => rfl
  | 6, hj => rfl
  | 7, hj => rfl
  | 8, hj => rfl
  | 9, hj => rfl
  | 10, hj => rfl
  | 11, hj => rfl
  | 12, hj => rfl
  | 13, hj => rfl
  | 14, hj => rfl
  | 15, hj => rfl
  | 16, hj => rw [h] at hj; cases hj
  | 17, hj => have := hp hj; rw [h] at this; cases this
  | 18, hj => rfl
  | (q + 19), hj => rfl
theorem endV_b (cr us idl ab st en : Int) : 0 ≤ endV cr us idl ab st en ∧ endV cr us idl ab st en ≤ 1099511627776 := by
  unfold endV
  split
  · have h1 := nr_b (addv cr (nr ab))
    have h2 := nr_b (addv us (nr idl))
    simp only [firstv, List.foldl_cons, List.foldl_nil, mn]
    split <;> split <;> omega
  · exact nr_b en
theorem fam_end {id : Int} {cl su : Bs} {sc : List Bs} {cr us idl ab gr ge to st en co : Int} (h : famOK id cl su sc cr us idl ab gr ge to st en co = true) : endOK (endV cr us idl ab st en) id = true := by
  simp only [famOK, Bool.and_eq_true] at h
  have hb := endV_b cr us idl ab st en
  simp only [endOK, tim, Bool.and_eq_true, decide_eq_true_eq]
  exact ⟨hb, h.1⟩
theorem fam_sub {id : Int} {cl su : Bs} {sc : List Bs} {cr us idl ab gr ge to st en co : Int} (h : famOK id cl su sc cr us idl ab gr ge to st en co = true) : subOK su id = true := by
  simp only [famOK, Bool.and_eq_true] at h
  simp only [subOK, Bool.and_eq_true]
  exact ⟨h.2.2.2.2.1, h.1⟩
/-- What OfFamily answers: nothing and 140, or the two entries. -/
def OfF (fa : Bool) (k1 v1 k2 v2 : Bs) (e : Ending) (w' : World) : Prop := if fa then ∃ p, e = .returned (.tuple #[.slice (some ⟨p, 0, none⟩) 2 2, I 0]) ∧ w'.heap[p]? = some (.cells #[S k1, S v1, S k2, S v2] 30 (0, 0)) else e = .returned (.tuple #[.slice none 0 0, I 140])
theorem OfFamily_any (id : Int) (cl su : Bs) (va : Option Addr) (vc : Nat) (sc : List Bs) (cr us idl ab gr ge to st en co : Int) (w : World) (h_cl : cl.length ≤ 9223372036854775807) (h_su : su.length ≤ 9223372036854775807) (hsc : Sts w va sc.length sc) (hsl : sc.length ≤ 140737488355000) (hln : Lns sc) : Calls Tryz.prog 21 #[.agg #[I id, S cl, S su, .slice va sc.length vc, I cr, I us, I idl, I ab, I gr, I ge, I to, I st, I en, I co]] w fun e w' => OfF (famOK id cl su sc cr us idl ab gr ge to st en co) (cat (lx (endKl (endV cr us idl ab st en) id)) 3) (cat (lx (endVl (endV cr us idl ab st en) id)) 0) (cat (lx (subKl su id)) 4) (cat (lx (subVl su id)) 0) e w' ∧ Below w.heap.size w w' := by
  have hb0 : Below w.heap.size w (w.alloc (.cells #[I id, S cl, S su, .slice va sc.length vc, I cr, I us, I idl, I ab, I gr, I ge, I to, I st, I en, I co] 40)) := (Below.refl _ w).alloc (Nat.le_refl _) _
  have hT := heap_alloc_new w (.cells #[I id, S cl, S su, .slice va sc.length vc, I cr, I us, I idl, I ab, I gr, I ge, I to, I st, I en, I co] 40)
  have HRt := hide (rightFamily_any id cl su va vc sc cr us idl ab gr ge to st en co (w.alloc (.cells #[I id, S cl, S su, .slice va sc.length vc, I cr, I us, I idl, I ab, I gr, I ge, I to, I st, I en, I co] 40)) h_cl h_su (Sts.bel hsc hb0) hsl hln)
  generalize hW1 : w.alloc (.cells #[I id, S cl, S su, .slice va sc.length vc, I cr, I us, I idl, I ab, I gr, I ge, I to, I st, I en, I co] 40) = W1 at *
  have c0 : W1.cell? ⟨w.heap.size, 0, none⟩ = some (I id) := by unfold World.cell?; rw [hT]; rfl
  have c1 : W1.cell? ⟨w.heap.size, 1, none⟩ = some (S cl) := by unfold World.cell?; rw [hT]; rfl
  have c2 : W1.cell? ⟨w.heap.size, 2, none⟩ = some (S su) := by unfold World.cell?; rw [hT]; rfl
  have c3 : W1.cell? ⟨w.heap.size, 3, none⟩ = some (.slice va sc.length vc) := by unfold World.cell?; rw [hT]; rfl
  have c4 : W1.cell? ⟨w.heap.size, 4, none⟩ = some (I cr) := by unfold World.cell?; rw [hT]; rfl
  have c5 : W1.cell? ⟨w.heap.size, 5, none⟩ = some (I us) := by unfold World.cell?; rw [hT]; rfl
  have c6 : W1.cell? ⟨w.heap.size, 6, none⟩ = some (I idl) := by unfold World.cell?; rw [hT]; rfl
  have c7 : W1.cell? ⟨w.heap.size, 7, none⟩ = some (I ab) := by unfold World.cell?; rw [hT]; rfl
  have c8 : W1.cell? ⟨w.heap.size, 8, none⟩ = some (I gr) := by unfold World.cell?; rw [hT]; rfl
  have c9 : W1.cell? ⟨w.heap.size, 9, none⟩ = some (I ge) := by unfold World.cell?; rw [hT]; rfl
  have c10 : W1.cell? ⟨w.heap.size, 10, none⟩ = some (I to) := by unfold World.cell?; rw [hT]; rfl
  have c11 : W1.cell? ⟨w.heap.size, 11, none⟩ = some (I st) := by unfold World.cell?; rw [hT]; rfl
  have c12 : W1.cell? ⟨w.heap.size, 12, none⟩ = some (I en) := by unfold World.cell?; rw [hT]; rfl
  have c13 : W1.cell? ⟨w.heap.size, 13, none⟩ = some (I co) := by unfold World.cell?; rw [hT]; rfl
  have HT := hide hT
  have HB := hide hb0
  clear hT hb0
  go_enter Tryz.func21, Tryz.ntmps21
  go_wp2_with fail
  refine (unhide HRt).mono ?_
  rintro e w2 ⟨rfl, hw2⟩
  have HB2 := hide ((unhide HB).trans (hw2.mono (unhide HB).size))
  have hT2 := (hw2.block _ (lt_of_row (unhide HT))).trans (unhide HT)
  clear hw2 HRt HB HT c0 c1 c2 c3 c4 c5 c6 c7 c8 c9 c10 c11 c12 c13 hW1
  cases hok : famOK id cl su sc cr us idl ab gr ge to st en co
  · clear hT2
    go_wp2
    go_ret2
    exact ⟨by rw [hok]; rfl, unhide HB2⟩
  · have h1 := fam_end hok
    have h2 := fam_sub hok
    have hc := fun (W : World) (hW : Below w2.heap.size w2 W) => (hW.block _ (lt_of_row hT2)).trans hT2
    go_wp2_with fail
    refine rof3 w.heap.size (.agg #[I id, S cl, S su, .slice va sc.length vc, I cr, I us, I idl, I ab, I gr, I ge, I to, I st, I en, I co]) (endV cr us idl ab st en) id su (cat (lx (endKl (endV cr us idl ab st en) id)) 3) (cat (lx (endVl (endV cr us idl ab st en) id)) 0) (cat (lx (subKl su id)) 4) (cat (lx (subVl su id)) 0) rfl (by rfl) (by rfl) _ w2 (by simp) rfl (Kf w2 (endV cr us idl ab st en) id su (cat (lx (endKl (endV cr us idl ab st en) id)) 3) (cat (lx (endVl (endV cr us idl ab st en) id)) 0) (cat (lx (subKl su id)) 4) (cat (lx (subVl su id)) 0)) ⟨fun _ => 0, (Below.refl _ _).drew, (fun e => by cases e), (fun e => by cases e), (fun e => by cases e), (fun e => by cases e), (fun e => by cases e), (fun e => by cases e)⟩ (fun i hi c L W hW => hW.step (Below.refl _ _) i (fun q => hi (by simp at q ⊢; omega)))
      (fun c L W hW _ => s_ldr (T := 40) (n := 14) (fun _ => by kernel_rfl) (fun _ => by kernel_rfl) (hc W hW.b) _ rfl rfl)
      (fun c L W hW _ _ => (End_any id cl su va vc sc cr us idl ab gr ge to st en co W).mono fun e w' q => ⟨c, fun _ _ => rfl, q.1, hW.step q.2 1 (by decide)⟩)
      (fun c L W hW _ _ => s_ld (T := 3) (fun _ => by kernel_rfl) (by unfold World.cell?; rw [hc W hW.b]; rfl))
      (fun c L W hW hL _ => ⟨nwc c 0 W.heap.size, W.alloc (.cells #[I (endV cr us idl ab st en), I id] 115), same0 _ _ _ _ _ _ _ _ _ c _ L hL, by kernel_rfl, hW.box1 ((Below.refl _ _).alloc (Nat.le_refl _) _) _ (heap_alloc_new _ _)⟩)
      (fun c L W hW hL h5 => (lp76 _ _ (c 0) W (hW.x h5) h1).mono fun e w' q => ?_)
      (fun c L W hW hL h6 => (hW.l1 h6 W (Below.refl _ _)).mono fun e w' q => ⟨c, fun _ _ => rfl, q.1, hW.step q.2 7 (by decide)⟩)
      (fun c L W hW _ _ => s_ld (T := 9) (fun _ => by kernel_rfl) (by unfold World.cell?; rw [hc W hW.b]; rfl))
      (fun c L W hW _ _ => s_ld (T := 3) (fun _ => by kernel_rfl) (by unfold World.cell?; rw [hc W hW.b]; rfl))
      (fun c L W hW hL _ => ⟨nwc c 1 W.heap.size, W.alloc (.cells #[S su, I id] 120), same1 _ _ _ _ _ _ _ _ _ c _ L hL, by kernel_rfl, hW.box2 ((Below.refl _ _).alloc (Nat.le_refl _) _) _ (heap_alloc_new _ _)⟩)
      (fun c L W hW hL h13 => (lp78 _ _ (c 1) W (hW.y h13) h2).mono fun e w' q => ?_)
      (fun c L W hW hL h14 => (hW.l2 h14 W (Below.refl _ _)).mono fun e w' q => ⟨c, fun _ _ => rfl, q.1, hW.step q.2 15 (by decide)⟩)
      (fun c L W hW hL _ _ => ⟨nwc c 4 W.heap.size, W.alloc (.cells #[S (cat (lx (endKl (endV cr us idl ab st en) id)) 3), S (cat (lx (endVl (endV cr us idl ab st en) id)) 0), S (cat (lx (subKl su id)) 4), S (cat (lx (subVl su id)) 0)] 30), same4 _ _ _ _ _ _ _ _ _ c _ L hL hW.p, by kernel_rfl, hW.sl ((Below.refl _ _).alloc (Nat.le_refl _) _) _ (heap_alloc_new _ _)⟩)
      (fun c L W hW hL h16 => ⟨hW.b, fun q => hW.x (by rwa [upd_ne (by decide)] at q), fun q => hW.y (by rwa [upd_ne (by decide)] at q), fun q => hW.l1 (by rwa [upd_ne (by decide)] at q), fun q => hW.l2 (by rwa [upd_ne (by decide)] at q), fun q => hW.s h16, fun _ => by rwa [upd_ne (by decide)]⟩) ?_
    · obtain ⟨d, q1, q2, q3⟩ := q
      exact ⟨nwc c 2 (d 0), same2 _ _ _ _ _ _ _ _ _ c _ L hL, q1, hW.lay1 q2 (d 0) q3⟩
    · obtain ⟨d, q1, q2, q3⟩ := q
      exact ⟨nwc c 3 (d 0), same3 _ _ _ _ _ _ _ _ _ c _ L hL, q1, hW.lay2 q2 (d 0) q3⟩
    · intro c L W hall hW
      have hs := hW.s (hall 16 (by decide))
      have HW := hide ((unhide HB2).trans (hW.b.mono (unhide HB2).size))
      simp only [Act.put, List.setIfInBounds_toArray, List.set_cons_succ, List.set_cons_zero]
      clear hW hall hc hT2 HB2 h1 h2
      go_wp2
      go_ret2
      exact ⟨by rw [hok]; exact ⟨c 4, rfl, hs⟩, unhide HW⟩
end Go.Proofs.YtpidmpefodnffaaGreatDoor
