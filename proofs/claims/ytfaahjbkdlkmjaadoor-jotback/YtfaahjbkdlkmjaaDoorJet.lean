import Derived.Test.YtfaahjbkdlkmjaaDoorJes
/- Jot: a whole text is read. -/
namespace Go.Proofs.YtfaahjbkdlkmjaaDoor
open Go Go.RowKit Go.Lib
set_option linter.unusedVariables false
set_option linter.unusedSimpArgs false
def set5 (w : World) (rb : Nat) (a b c d e : Value) : World := ((((w.setCell ⟨rb, 0, none⟩ a).setCell ⟨rb, 1, none⟩ b).setCell ⟨rb, 2, none⟩ c).setCell ⟨rb, 3, none⟩ d).setCell ⟨rb, 4, none⟩ e
theorem set5_row {w : World} {rb : Nat} {x0 x1 x2 x3 x4 : Value} (h : w.heap[rb]? = some (.cells #[x0, x1, x2, x3, x4] 25 (0, 0))) (a b c d e : Value) : (set5 w rb a b c d e).heap[rb]? = some (.cells #[a, b, c, d, e] 25 (0, 0)) := by
  have h1 := heap_setCell_same w rb 0 _ 25 a h
  have h2 := heap_setCell_same _ rb 1 _ 25 b h1
  have h3 := heap_setCell_same _ rb 2 _ 25 c h2
  have h4 := heap_setCell_same _ rb 3 _ 25 d h3
  have h5 := heap_setCell_same _ rb 4 _ 25 e h4
  unfold set5
  rw [h5]
  rfl
theorem set5_below (w : World) (B rb : Nat) (h : B ≤ rb) (a b c d e : Value) : Below B w (set5 w rb a b c d e) :=
  (((((Below.refl B w).setCell (p := ⟨rb, 0, none⟩) h _).setCell (p := ⟨rb, 1, none⟩) h _).setCell (p := ⟨rb, 2, none⟩) h _).setCell (p := ⟨rb, 3, none⟩) h _).setCell (p := ⟨rb, 4, none⟩) h _
theorem set5_other (w : World) (rb k : Nat) (a b c d e : Value) (h : k ≠ rb) : (set5 w rb a b c d e).heap[k]? = w.heap[k]? :=
  (heap_setCell_other _ ⟨rb, 4, none⟩ k e h).trans ((heap_setCell_other _ ⟨rb, 3, none⟩ k d h).trans ((heap_setCell_other _ ⟨rb, 2, none⟩ k c h).trans ((heap_setCell_other _ ⟨rb, 1, none⟩ k b h).trans (heap_setCell_other w ⟨rb, 0, none⟩ k a h))))
theorem set5_size (w : World) (rb : Nat) (a b c d e : Value) : (set5 w rb a b c d e).heap.size = w.heap.size := by simp [set5, World.setCell]
def okW (w : World) (v : J) (e : Ending) (w' : World) : Prop := ∃ it : It, it.j = v ∧ e = .returned it.agg ∧ JD w' (Ft w w') it.na it.xa it.j
set_option maxHeartbeats 16000000 in
set_option maxRecDepth 20000 in
theorem whole_any (b : Nat) (s r : Bs) (w : World) (h : RAt b s r w) (hE : Env w) (hb3 : 3 ≤ b) :
    Calls Tryd.prog 16 #[.pointer (some ⟨b, 0, none⟩)] w (PO b s w (whole r) (okW w)) := by
  obtain ⟨wA, hwA⟩ : ∃ wA, w.alloc (.cells #[I 0, I 0, S [], .slice none 0 0, .slice none 0 0] 25) = wA := ⟨_, rfl⟩
  have bA : Below w.heap.size w wA := by rw [← hwA]; exact (Below.refl _ _).alloc (Nat.le_refl _) _
  have rA : wA.heap[w.heap.size]? = some (.cells #[I 0, I 0, S [], .slice none 0 0, .slice none 0 0] 25 (0, 0)) := by rw [← hwA]; exact heap_alloc_new w _
  have HB := hide (blanks_any b s r wA (h.keep bA))
  have HOA := hide (Onl.of_below (b := b) bA)
  have HE := hide hE
  have hbw := h.lt
  have hsl := h.le
  have HRA := hide rA
  have HW := hide (show whole r = match val (fuel r) 0 (sk r) with
    | .error e => .error e
    | .ok (v, t) => if (sk t).length = 0 then .ok v else .error (40, (sk t).length) from rfl)
  have HN := hide (val_fuel r)
  have HVC := hide (read_any (fuel r) (fuel r) (Nat.le_refl _))
  obtain ⟨F, hF⟩ : ∃ F, fuel r = F := ⟨_, rfl⟩
  obtain ⟨r1, hr1⟩ : ∃ r1, sk r = r1 := ⟨_, rfl⟩
  rw [hF] at HW HN HVC
  rw [hr1] at HW HN HB
  clear h hE bA rA hF hr1
  go_enter Tryd.func16, Tryd.ntmps16
  go_wp2_with fail
  try simp only [hwA]
  clear hwA
  refine (unhide HB).mono ?_
  rintro e w1 ⟨rfl, h1, o1⟩
  have hrl : w.heap.size < wA.heap.size := lt_of_row (unhide HRA)
  have HR1 := hide ((o1.block w.heap.size hrl (by omega)).trans (unhide HRA))
  have O1 := hide ((unhide HOA).trans o1)
  have hs1 : w.heap.size < w1.heap.size := Nat.lt_of_lt_of_le hrl o1.size
  have HV := hide (unhide HVC 0 b s r1 w1 (by omega) h1 ((unhide O1).env (unhide HE) hb3) hb3 (fun er q => by have := unhide HN er q; omega))
  rw [show ((0 : Nat) : Int) = 0 from rfl] at HV
  clear h1 o1 HB HOA HRA
  go_wp2_with fail
  refine (unhide HV).mono ?_
  rintro e w2 ⟨o2, he⟩
  cases hv : val F 0 r1 with
  | error er =>
    rw [hv] at he
    subst he
    have HX := hide (show whole r = .error er by rw [unhide HW, hv])
    have OX := hide ((unhide O1).trans o2)
    clear hv HW HV o2
    go_wp2_with fail
    exact ⟨rfl, PO.bad (unhide HX) (unhide OX) rfl⟩
  | ok y =>
    obtain ⟨j, t⟩ := y
    rw [hv] at he
    obtain ⟨⟨it, hj, rfl, hclo, hjd⟩, h2⟩ := he
    simp only at hj h2
    subst hj
    obtain ⟨t1, ht1⟩ : ∃ t1, sk t = t1 := ⟨_, rfl⟩
    have HX := hide (show whole r = if t1.length = 0 then .ok it.j else .error (40, t1.length) by rw [unhide HW, hv]; simp only [ht1])
    have HB2 := hide (blanks_any b s t w2 h2)
    rw [ht1] at HB2
    have O2 := hide ((unhide O1).trans o2)
    have HR2 := hide ((o2.block w.heap.size hs1 (by omega)).trans (unhide HR1))
    have HJ := hide hjd
    have HClo := hide hclo
    have hs2 := o2.size
    clear hv HW HV o2 h2 hjd hclo ht1 O1 HR1
    go_wp2_with fail
    refine (unhide HB2).mono ?_
    rintro e w3 ⟨rfl, h3, o3⟩
    have O3 := hide ((unhide O2).trans o3)
    have HR3 := hide ((o3.block w.heap.size (by omega) (by omega)).trans (unhide HR2))
    have HJ3 := hide (show JD w3 (Ft w1 w2) it.na it.xa it.j from JD.keep (fun k q => o3.block k q.2 (by have := q.1; omega)) (fun k q => q) _ (unhide HJ))
    have H3 := hide h3
    have hs3 := o3.size
    obtain ⟨p, hrow, hp, hd⟩ := h3.row
    have hlen : t1.length = s.length - p := by rw [← hd]; simp
    have d0 : w3.cell? ⟨b, 0, none⟩ = some (S s) := by rw [Lib.cell_of_heap hrow]; rfl
    have d1 : w3.cell? ⟨b, 1, none⟩ = some (.int .i64 p) := by rw [Lib.cell_of_heap hrow]; rfl
    clear h3 o3 hrow hd HB2 O2 HR2 HJ
    by_cases hps : p < s.length
    · have hps' : (p : Int) < (s.length : Int) := by omega
      have HX2 := hide (show whole r = .error (40, t1.length) by rw [unhide HX, if_neg (by omega)])
      go_upto_region 4 with fail
      go_quiet (fail)
      have HF := hide (fail_any 40 b s t1 (w3.drewN nq) ((unhide H3).drewN nq))
      have OX := hide ((unhide O3).trans (Onl.drewN b w3 nq))
      go_wp2_with fail
      refine (unhide HF).mono ?_
      rintro e w5 ⟨rfl, rfl⟩
      go_wp2_with fail
      exact ⟨rfl, PO.bad (unhide HX2) (unhide OX) (by rw [hlen])⟩
    · have hps' : ¬ ((p : Int) < (s.length : Int)) := by omega
      have HX2 := hide (show whole r = .ok it.j by rw [unhide HX, if_pos (by omega)])
      go_upto_region 4 with fail
      go_quiet (fail)
      have HC := hide (closed_any (unhide HClo) (w3.drewN nq))
      have OX := hide ((unhide O3).trans (Onl.drewN b w3 nq))
      have HR4 : (w3.drewN nq).heap[w.heap.size]? = some (.cells #[I 0, I 0, S [], .slice none 0 0, .slice none 0 0] 25 (0, 0)) := unhide HR3
      have HJ4 : JD (w3.drewN nq) (Ft w1 w2) it.na it.xa it.j := JD.keep (W := w3) (W' := w3.drewN nq) (fun k q => rfl) (fun k q => q) _ (unhide HJ3)
      have hs4 : w2.heap.size ≤ (w3.drewN nq).heap.size := hs3
      generalize w3.drewN nq = w4 at *
      have HR4' := hide HR4
      have HJ4' := hide HJ4
      clear HR4 HJ4 d0 d1 HJ3 HR3
      unfold It.val
      go_wp2_with fail
      refine (unhide HC).mono ?_
      rintro e w5 ⟨rfl, hb5⟩
      have hr5 := (hb5.block _ (by omega)).trans (unhide HR4')
      have hj5 := JD.keep (W' := w5) (D' := Ft w1 w2) (fun k q => hb5.block k (Nat.lt_of_lt_of_le q.2 hs4)) (fun k q => q) _ (unhide HJ4')
      have e0 : w5.cell? ⟨w.heap.size, 0, none⟩ = some (I 0) := by rw [cell_at hr5]; rfl
      have e1 : w5.cell? ⟨w.heap.size, 1, none⟩ = some (I 0) := by rw [cell_at hr5]; rfl
      have e2 : w5.cell? ⟨w.heap.size, 2, none⟩ = some (S []) := by rw [cell_at hr5]; rfl
      have e3 : w5.cell? ⟨w.heap.size, 3, none⟩ = some (.slice none 0 0) := by rw [cell_at hr5]; rfl
      have e4 : w5.cell? ⟨w.heap.size, 4, none⟩ = some (.slice none 0 0) := by rw [cell_at hr5]; rfl
      have z0 := frz hr5 0
      have z1 := frz hr5 1
      have z2 := frz hr5 2
      have z3 := frz hr5 3
      have z4 := frz hr5 4
      have O5 := hide ((unhide OX).trans (Onl.of_below hb5))
      have hs5 := hb5.size
      have HR5 := hide hr5
      have HJ5 := hide hj5
      clear hb5 hr5 hj5 HC OX
      unfold vJ
      go_wp2_with fail
      refine bodyPost_ret (v := .agg #[I it.j.k, I it.j.n, S it.j.t, .slice it.na it.j.ns.length it.nc, .slice it.xa it.j.xs.length it.xc]) (results_cell_row Tryd.results16 _ _ w.heap.size 25 _ (0, 0) _ rfl (set5_row (unhide HR5) _ _ _ _ _) Tryd.underlying25 rfl (by kernel_rfl)) rfl ?_
      refine PO.ok (unhide HX2) ((unhide O5).under (set5_below w5 w.heap.size w.heap.size (Nat.le_refl _) _ _ _ _ _) (Nat.le_refl _)) ⟨it, rfl, rfl, ?_⟩
      refine JD.keep (fun k q => set5_other w5 w.heap.size k _ _ _ _ _ (by have := q.1; omega)) (fun k q => ⟨by have := q.1; omega, ?_⟩) _ (unhide HJ5)
      show k < (set5 w5 w.heap.size (I it.j.k) (I it.j.n) (S it.j.t) (.slice it.na it.j.ns.length it.nc) (.slice it.xa it.j.xs.length it.xc)).heap.size
      rw [set5_size]
      exact Nat.lt_of_lt_of_le q.2 (Nat.le_trans hs4 hs5)
end Go.Proofs.YtfaahjbkdlkmjaaDoor
