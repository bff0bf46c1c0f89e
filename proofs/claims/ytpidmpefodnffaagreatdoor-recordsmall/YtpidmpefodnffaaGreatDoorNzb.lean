import Derived.Test.YtpidmpefodnffaaGreatDoorNza
import Derived.Test.YtpidmpefodnffaaGreatDoorTra
namespace Go.Proofs.YtpidmpefodnffaaGreatDoor
open Go.RowKit Go.Lib
set_option maxHeartbeats 4000000
set_option maxRecDepth 8000
def nte_nx (s : Bs) : Int := rv 8 (s, 0)
def nte_nw (s : Bs) : Int := rv 6 (rs 8 (s, 0))
def nteG (s : Bs) : Bool := nteP (nte_nx s) (nte_nw s) == (s, 0)
def ntest : Nat → Bs × Nat → List Ct → (Bs × Nat) × List Ct := fun i => match i with
  | 0 => fun s cs => (rs 8 s, cs.set 0 (.n (rv 8 s)))
  | 1 => fun s cs => (rs 6 s, cs.set 1 (.n (rv 6 s)))
  | 2 => fun s cs => (rr2 2 s, cs)
  | _ => fun s cs => (s, cs)
theorem nteRd_eq (s : Bs) : (runF ntest 3 (s, 0) [.n 0, .n 0]).2 = [.n (nte_nx s), .n (nte_nw s)] := by kernel_rfl
theorem rcNote {B T : Nat} {x y : Int} {W : World} (h : Rec B T 159 [.n x, .n y] W) : W.heap[T]? = some (.cells #[I x, I y] 159 (0, 0)) := by
  obtain ⟨vs, g1, g2, g3⟩ := h
  match vs, g2, g3, g1 with
  | [a0, a1], _, g3, g1 =>
    have e0 := g3 0 _ _ rfl rfl
    have e1 := g3 1 _ _ rfl rfl
    simp only [CtAt] at e0 e1
    subst e0 e1
    exact g1
theorem Note49 (s : Bs) (w : World) (hs : s.length ≤ 9223372036854775807) : Calls Tryz.prog 49 #[S s] w fun e w' => Below w.heap.size w w' ∧ ((nteG s = true ∧ e = .returned (.tuple #[I (nte_nx s), I (nte_nw s), I 0])) ∨ (nteG s = false ∧ e = .returned (.tuple #[I 0, I 0, I 141]))) := by
  have hb0 : Below w.heap.size w (w.alloc (.cells #[I 0, I 0] 159)) := (Below.refl _ w).alloc (Nat.le_refl _) _
  have hT := heap_alloc_new w (.cells #[I 0, I 0] 159)
  have hsz : (w.alloc (.cells #[I 0, I 0] 159)).heap.size = w.heap.size + 1 := by simp
  have HG : Hid (nteG s = (nteP (nte_nx s) (nte_nw s) == (s, 0))) := hide rfl
  have HRd := hide (nteRd_eq s)
  generalize nte_nx s = nx at *
  generalize nte_nw s = nw at *
  generalize hW1 : w.alloc (.cells #[I 0, I 0] 159) = W1 at *
  have XL := hide (lay118 w.heap.size W1)
  go_enter Tryz.func49, Tryz.ntmps49
  go_wp2_with fail
  refine (unhide XL).mono ?_
  rintro e W2 ⟨rfl, hb, hX, hC⟩
  have hT2 := (hb.block _ (lt_of_row hT)).trans hT
  have hlX := lt_of_row hX
  have XA := hide (takeAll_any (some ⟨W1.heap.size + 1, 0, none⟩) 3 (fun i => (#[(vI ⟨w.heap.size, 0, none⟩ 8), (vI ⟨w.heap.size, 1, none⟩ 6), (vW ⟨W1.heap.size, 0, none⟩ 2)] : Array Value).getD i undef) ntest w.heap.size 159 [W1.heap.size] [(W1.heap.size + 1, .cells #[(vI ⟨w.heap.size, 0, none⟩ 8), (vI ⟨w.heap.size, 1, none⟩ 6), (vW ⟨W1.heap.size, 0, none⟩ 2)] 213 (0, 0))] 2 s [.n 0, .n 0] W2 (by decide) rfl hs
    (fun _ => ⟨W1.heap.size + 1, _, rfl, List.Mem.head _, fun i hi => by match i, hi with | 0, _ => rfl | 1, _ => rfl | 2, _ => rfl | (q + 3), h => exact absurd h (by omega)⟩)
    (fun i hi => by
      match i, hi with
      | 0, _ => exact Tf.nu _ 159 _ _ 2 0 (by decide) 8
      | 1, _ => exact Tf.nu _ 159 _ _ 2 1 (by decide) 6
      | 2, _ => exact Tf.let _ 159 _ _ 2 W1.heap.size (by simp) 2
      | (q + 3), h => exact absurd h (by omega))
    (by rw [hT2]; simp)
    (fun B _ => ⟨#[I 0, I 0].toList, hT2, rfl, fun j q y h1 h2 => by
      match j, h1, h2 with
      | 0, h1, h2 => cases h1; cases h2; rfl
      | 1, h1, h2 => cases h1; cases h2; rfl
      | (j + 2), h1, h2 => cases h1⟩)
    (fun l hl => by
      simp only [List.mem_cons, List.not_mem_nil, or_false] at hl
      subst hl
      exact ⟨by omega, _, hX⟩)
    (fun q hq => by
      simp only [List.mem_cons, List.not_mem_nil, or_false] at hq
      subst hq
      exact ⟨hC, by show W1.heap.size + 1 ≠ w.heap.size; omega, by simp⟩))
  rw [unhide HRd] at XA
  clear HRd
  have HB2 := hide (hb0.trans (hb.mono hb0.size))
  have HS := hide hsz
  clear hb hX hC hT hT2 hb0 XL hW1 hsz
  go_wp2_with fail
  refine (unhide XA).mono ?_
  rintro e W3 ⟨rfl, hr, _, ho, _⟩
  have HR3 := hide (rcNote hr)
  have HB3 := hide (ho.below (unhide HB2) (unhide HB2).size (fun k e => by
    rcases e with e | e
    · omega
    · simp only [List.mem_cons, List.not_mem_nil, or_false] at e
      have := unhide HS
      omega))
  clear hr ho XA HB2 HS hlX
  have c0 : W3.cell? ⟨w.heap.size, 0, none⟩ = some (I nx) := cellr (unhide HR3) rfl
  have c1 : W3.cell? ⟨w.heap.size, 1, none⟩ = some (I nw) := cellr (unhide HR3) rfl
  have XN := hide (Note47 nx nw W3)
  generalize hQ : nteP nx nw = Q9 at *
  obtain ⟨x9, e9⟩ := Q9
  clear hQ
  go_wp2_with fail
  refine (unhide XN).mono ?_
  rintro e W4 ⟨rfl, hb⟩
  have d0 : W4.cell? ⟨w.heap.size, 0, none⟩ = some (I nx) := cell_below c0 hb (cell_lt c0)
  have d1 : W4.cell? ⟨w.heap.size, 1, none⟩ = some (I nw) := cell_below c1 hb (cell_lt c1)
  have HB4 := hide ((unhide HB3).trans (hb.mono (unhide HB3).size))
  clear hb XN HB3 HR3 c0 c1
  by_cases h0 : e9 = 0
  · subst h0
    by_cases h1 : x9 = s
    · subst h1
      have HV := hide (show nteG x9 = true by rw [unhide HG]; simp)
      clear HG
      go_wp2_with fail
      go_quiet (fail)
      have HB5 := hide (show Below w.heap.size w (W4.drewN nq) from (unhide HB4).trans ⟨rfl, rfl, rfl, Nat.le_refl _, fun _ _ => rfl⟩)
      generalize W4.drewN nq = W5 at *
      go_wp2
      go_ret3
      exact ⟨unhide HB5, .inl ⟨unhide HV, rfl⟩⟩
    · have HV := hide (show nteG s = false by rw [unhide HG]; simp [h1])
      have g1 : (x9 == s) = false := by simpa using h1
      clear HG
      go_wp2
      go_ret3
      exact ⟨unhide HB4, .inr ⟨unhide HV, rfl⟩⟩
  · have HV := hide (show nteG s = false by rw [unhide HG]; simp [h0])
    have g0 : ((e9 : Int) != 0) = true := by rw [bne_iff_ne]; omega
    clear HG
    go_wp2
    go_ret3
    exact ⟨unhide HB4, .inr ⟨unhide HV, rfl⟩⟩
end Go.Proofs.YtpidmpefodnffaaGreatDoor
