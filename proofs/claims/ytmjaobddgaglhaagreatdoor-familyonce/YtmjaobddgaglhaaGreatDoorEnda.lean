import Derived.Test.YtmjaobddgaglhaaGreatDoorRgen
import Derived.Test.YtmjaobddgaglhaaGreatDoorZprg
namespace Go.Proofs.YtmjaobddgaglhaaGreatDoor
open Go.RowKit
set_option maxHeartbeats 4000000
set_option maxRecDepth 8000
theorem firstc_any (a b : Int) (p : Nat) (w : World) (hp : w.heap[p]? = some (.cells #[I a, I b] 3 (0, 0))) : Calls Tryz.prog 64 #[.slice (some ⟨p, 0, none⟩) 2 2] w fun e w' => e = .returned (I (firstv [a, b])) ∧ w' = w := by
  refine first_any (some ⟨p, 0, none⟩) 2 2 [a, b] w ⟨rfl, fun _ => ⟨p, 0, rfl, fun j hj => ?_⟩⟩ (by omega)
  rw [Nat.zero_add]
  unfold World.cell?
  rw [hp]
  match j, hj with
  | 0, _ => rfl
  | 1, _ => rfl
  | (q + 2), h => omega
theorem rnear_any (n : Int) (w : World) : Calls Tryz.prog 63 #[I n] w fun e w' => e = .returned (I (nr n)) ∧ Below w.heap.size w w' := by
  have hb : Below w.heap.size w (w.alloc (.cells #[I n] 3)) := (Below.refl _ w).alloc (Nat.le_refl _) _
  have hc : (w.alloc (.cells #[I n] 3)).cell? ⟨w.heap.size, 0, none⟩ = some (I n) := cell_new _ _ _ _ _ rfl
  have HF := hide (first_any (some ⟨w.heap.size, 0, none⟩) 1 1 [n] (w.alloc (.cells #[I n] 3)) ⟨rfl, fun _ => ⟨w.heap.size, 0, rfl, fun j hj => by
    have e : j = 0 := by omega
    subst e
    exact hc⟩⟩ (by omega))
  have HB := hide hb
  have HV : Hid (firstv [n] = nr n) := hide (by
    have := nr_b n
    simp [firstv, mn]
    omega)
  clear hb hc
  rw [← unhide HV]
  generalize firstv [n] = r at *
  go_enter Tryz.func63, Tryz.ntmps63
  go_wp2_with fail
  refine (unhide HF).mono ?_
  rintro e w2 ⟨rfl, hw2⟩
  rw [hw2]
  go_wp2
  go_ret
  exact ⟨rfl, unhide HB⟩
/-- When a family ends. -/
def endV (cr us idl ab st en : Int) : Int := if st = 1 then firstv [addv cr (nr ab), addv us (nr idl)] else nr en
theorem End_any (id : Int) (cl su : Bs) (va : Option Addr) (vc : Nat) (sc : List Bs) (cr us idl ab gr ge to st en co : Int) (w : World) : Calls Tryz.prog 38 #[.agg #[I id, S cl, S su, .slice va sc.length vc, I cr, I us, I idl, I ab, I gr, I ge, I to, I st, I en, I co]] w fun e w' => e = .returned (I (endV cr us idl ab st en)) ∧ Below w.heap.size w w' := by
  have hb0 : Below w.heap.size w (w.alloc (.cells #[I id, S cl, S su, .slice va sc.length vc, I cr, I us, I idl, I ab, I gr, I ge, I to, I st, I en, I co] 24)) := (Below.refl _ w).alloc (Nat.le_refl _) _
  have hT := heap_alloc_new w (.cells #[I id, S cl, S su, .slice va sc.length vc, I cr, I us, I idl, I ab, I gr, I ge, I to, I st, I en, I co] 24)
  generalize hW1 : w.alloc (.cells #[I id, S cl, S su, .slice va sc.length vc, I cr, I us, I idl, I ab, I gr, I ge, I to, I st, I en, I co] 24) = W1 at *
  have c11 : W1.cell? ⟨w.heap.size, 11, none⟩ = some (I st) := by unfold World.cell?; rw [hT]; rfl
  have c12 : W1.cell? ⟨w.heap.size, 12, none⟩ = some (I en) := by unfold World.cell?; rw [hT]; rfl
  have hc := fun (W : World) (hW : Below W1.heap.size W1 W) => (hW.block _ (lt_of_row hT)).trans hT
  have HB := hide hb0
  have HN := hide (rnear_any en W1)
  by_cases h1 : st = 1
  · subst h1
    have HE : Hid (endV cr us idl ab 1 en = firstv [addv cr (nr ab), addv us (nr idl)]) := hide rfl
    rw [unhide HE]
    clear hb0 c12 HN HE
    go_enter Tryz.func38, Tryz.ntmps38
    go_wp2_with fail
    refine ren3 w.heap.size cr us idl ab rfl (by rfl) (by rfl) _ W1 (by simp) rfl (fun c L W => Below W1.heap.size W1 W ∧ (L 12 = true → W.heap[c]? = some (.cells #[I (addv cr (nr ab)), I (addv us (nr idl))] 3 (0, 0)))) ⟨0, (Below.refl _ _).drew, fun e => by cases e⟩ (fun i hi c L W hW => ⟨hW.1, fun e => hW.2 (by rw [upd_ne (fun q => hi (by simp [← q]))] at e; exact e)⟩)
      (fun c L W hW _ _ => s_ld (T := 3) (fun _ => by kernel_rfl) (by unfold World.cell?; rw [hc W hW.1]; rfl))
      (fun c L W hW _ _ => s_ld (T := 3) (fun _ => by kernel_rfl) (by unfold World.cell?; rw [hc W hW.1]; rfl))
      (fun c L W hW hL _ => (rnear_any ab W).mono fun e w' q => ⟨c, fun _ _ => rfl, q.1, hW.1.trans (q.2.mono hW.1.size), fun e => by rw [upd_ne (by decide)] at e; exact (q.2.block _ (lt_of_row (hW.2 e))).trans (hW.2 e)⟩)
      (fun c L W hW hL _ _ => (cadd_any cr (nr ab) W).mono fun e w' q => ⟨c, fun _ _ => rfl, q.1, by rw [q.2]; exact ⟨hW.1, fun e => by rw [upd_ne (by decide)] at e; exact hW.2 e⟩⟩)
      (fun c L W hW _ _ => s_ld (T := 3) (fun _ => by kernel_rfl) (by unfold World.cell?; rw [hc W hW.1]; rfl))
      (fun c L W hW _ _ => s_ld (T := 3) (fun _ => by kernel_rfl) (by unfold World.cell?; rw [hc W hW.1]; rfl))
      (fun c L W hW hL _ => (rnear_any idl W).mono fun e w' q => ⟨c, fun _ _ => rfl, q.1, hW.1.trans (q.2.mono hW.1.size), fun e => by rw [upd_ne (by decide)] at e; exact (q.2.block _ (lt_of_row (hW.2 e))).trans (hW.2 e)⟩)
      (fun c L W hW hL _ _ => (cadd_any us (nr idl) W).mono fun e w' q => ⟨c, fun _ _ => rfl, q.1, by rw [q.2]; exact ⟨hW.1, fun e => by rw [upd_ne (by decide)] at e; exact hW.2 e⟩⟩)
      (fun c L W hW hL _ _ => ⟨W.heap.size, W.alloc (.cells #[I (addv cr (nr ab)), I (addv us (nr idl))] 3), fun j hj => ?_, by kernel_rfl, hW.1.alloc hW.1.size _, fun _ => heap_alloc_new _ _⟩)
      (fun c L W hW hL h12 => (firstc_any _ _ c W (hW.2 h12)).mono fun e w' q => ⟨c, fun _ _ => rfl, q.1, by rw [q.2]; exact ⟨hW.1, fun e => by rw [upd_ne (by decide)] at e; exact hW.2 e⟩⟩) ?_
    · match j, hj with
      | 0, _ => rfl
      | 1, _ => rfl
      | 2, _ => rfl
      | 3, _ => rfl
      | 4, _ => rfl
      | 5, _ => rfl
      | 6, _ => rfl
      | 7, _ => rfl
      | 8, _ => rfl
      | 9, _ => rfl
      | 10, _ => rfl
      | 11, _ => rfl
      | 12, hj => rw [hL] at hj; cases hj
      | 13, _ => rfl
      | 14, _ => rfl
      | (q + 15), _ => rfl
    · intro c L W hall hW
      simp only [Act.put, List.setIfInBounds_toArray, List.set_cons_succ, List.set_cons_zero]
      have HW := hide ((unhide HB).trans (hW.1.mono (unhide HB).size))
      clear hW hall hc hT c11 HB hW1
      go_wp2
      go_ret
      exact ⟨rfl, unhide HW⟩
  · have HE : Hid (endV cr us idl ab st en = nr en) := hide (by unfold endV; rw [if_neg h1])
    rw [unhide HE]
    have hb1 : (st != 1) = true := by simpa using h1
    clear hb0 HE hc h1
    go_enter Tryz.func38, Tryz.ntmps38
    go_wp2_with fail
    refine (unhide HN).mono ?_
    rintro e w2 ⟨rfl, hw2⟩
    have HW := hide ((unhide HB).trans (hw2.mono (unhide HB).size))
    clear hw2 HN HB hT c11 c12
    go_wp2
    go_ret
    exact ⟨rfl, unhide HW⟩
end Go.Proofs.YtmjaobddgaglhaaGreatDoor
