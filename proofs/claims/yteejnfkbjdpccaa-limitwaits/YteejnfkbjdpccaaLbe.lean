import Derived.Test.YteejnfkbjdpccaaLbd
import Derived.Deep.RegionWith
namespace Go.Proofs.Yteejnfkbjdpccaa
open Go.RowKit Fl
attribute [local go_sem] run_storeF
set_option maxHeartbeats 4000000
set_option maxRecDepth 8000
theorem gon_eq (t n : Int) : max (n - t) 0 = ((gon t n : Nat) : Int) := by unfold gon; omega
theorem gone_any (k : Bk) (n : Int) (w : World) (h0 : 0 ≤ k.tm) (h1 : k.tm ≤ 1099511627776) (h2 : 0 ≤ n) (h3 : n ≤ 1099511627776) :
    Calls Try.prog 26 #[vB k, I n] w fun e w' => e = .returned (I (gon k.tm n : Nat)) ∧ Below w.heap.size w w' := by
  have hw : wrap64 (n - k.tm) = n - k.tm := by
    unfold wrap64; omega
  have hg := gon_eq k.tm n
  have ZB := hide ((Below.refl w.heap.size w).alloc (Nat.le_refl _) (.cells #[S k.nm, fl k.lv, I k.tm] 65))
  obtain ⟨k0, k1, k2⟩ := k
  simp only at *
  generalize gon k2 n = G at *
  go_enter Try.func26, Try.ntmps26
  go_wp2
  all_goals go_ret
  all_goals refine ⟨ret_int ?_, unhide ZB⟩
  all_goals (repeat' split)
  all_goals omega
theorem level_any {p : Nat} {x : Li} {w : World} (h : LAt 57 65 p x w) (hx : x.Ok) (k : Bk) (hk : k.lv ≤ x.b) (d : Nat) (hd : d ≤ 9223372036854775807) :
    Calls Try.prog 25 #[ptr p, vB k, I d] w fun e w' => e = .returned (fl (lvl x.r x.b k.lv d)) ∧ Below w.heap.size w w' := by
  obtain ⟨a, cap, h1, h2⟩ := h
  have hl := lt_of_row h1
  have c0 : w.cell? ⟨p, 0, none⟩ = some (fl x.r) := by rw [cell_of_row w p 0 _ 57 (0, 0) h1]; rfl
  have c1 : w.cell? ⟨p, 1, none⟩ = some (fl x.b) := by rw [cell_of_row w p 1 _ 57 (0, 0) h1]; rfl
  have ZB := hide ((Below.refl w.heap.size w).alloc (Nat.le_refl _) (.cells #[S k.nm, fl k.lv, I k.tm] 65))
  have hb1 := hx.b1
  have hcv := conv_eq d
  have HM := fun W => run_mulF (P := Try.prog) 37 (cv_lt (n := d) (by omega)) hx.r W
  have HA := fun W => run_addF (P := Try.prog) 37 (x := k.lv) (y := ml (cv d) x.r) (by omega) (ml_le _ _) W
  have HN := fun W => run_minF (P := Try.prog) #[37, 37] 37 (x := x.b) (y := ad k.lv (ml (cv d) x.r)) (by omega) (ad_le _ _) W
  have hR : lvl x.r x.b k.lv d = min x.b (ad k.lv (ml (cv d) x.r)) := rfl
  obtain ⟨k0, k1, k2⟩ := k
  obtain ⟨r, b, ks⟩ := x
  simp only at *
  rw [hR]
  clear h1 h2 hR hx
  generalize cv d = C at *
  generalize ml C r = M at *
  generalize ad k1 M = A at *
  generalize min b A = R at *
  have z1 := cell_of_row (w.alloc (.cells #[S k0, fl k1, I k2] 65)) w.heap.size 1 _ 65 (0, 0) (heap_alloc_new _ _)
  have z0 : (w.alloc (.cells #[S k0, fl k1, I k2] 65)).cell? ⟨p, 1, none⟩ = some (fl b) := (World.cell?_alloc_lt (h := hl) ..).trans c1
  go_enter Try.func25, Try.ntmps25
  go_wp2
  go_region
  all_goals go_wp2
  all_goals go_ret
  all_goals exact ⟨rfl, (unhide ZB).drew⟩
theorem box_cells {w : World} {v0 v1 v2 : Value} {T : TypeId} {wr : World} (hb : Below (w.heap.size + 1) (w.alloc (.cells #[v0, v1, v2] T)) wr) : wr.cell? ⟨w.heap.size, 0, none⟩ = some v0 ∧ wr.cell? ⟨w.heap.size, 1, none⟩ = some v1 ∧ wr.cell? ⟨w.heap.size, 2, none⟩ = some v2 ∧ w.heap.size < wr.heap.size := by
  have hzr : wr.heap[w.heap.size]? = some (.cells #[v0, v1, v2] T (0, 0)) := (hb.block _ (by omega)).trans (heap_alloc_new _ _)
  exact ⟨by rw [cell_of_row wr _ 0 _ T (0, 0) hzr]; rfl, by rw [cell_of_row wr _ 1 _ T (0, 0) hzr]; rfl, by rw [cell_of_row wr _ 2 _ T (0, 0) hzr]; rfl, lt_of_row hzr⟩
theorem wait_any {p : Nat} {x : Li} {w : World} (h : LAt 57 65 p x w) (hx : x.Ok) (k : Bk) (hk : k.lv ≤ x.b) (d : Nat) (hd : d ≤ 1099511627776) (c : Nat) (hc : Am c) :
    Calls Try.prog 27 #[ptr p, vB k, I d, fl c] w fun e w' => e = .returned (I (wt x.r x.b k.lv d c : Nat)) ∧ Below w.heap.size w w' := by
  have HLV := hide (fun (W : World) (b : Below w.heap.size w W) (m : Nat) (hm : m ≤ 1099511627776) => level_any (h.below b) hx k hk (d + m) (by omega))
  have HGE := hide (fun m => order_geq (x := lvl x.r x.b k.lv (d + m)) (y := c) (by have := lvl_le x.r x.b k.lv (d + m); have := hx.b1; omega) hc)
  have hl := h.lt
  have hpm : ∀ m, may x.r x.b k.lv d c m = decide (nz c ≤ lvl x.r x.b k.lv (d + m)) := fun _ => rfl
  have hW : wt x.r x.b k.lv d c = bs (may x.r x.b k.lv d c) 40 1 1099511627776 := rfl
  rw [hW]
  have HPM := hide hpm
  clear hpm hW h hx hc
  generalize may x.r x.b k.lv d c = pm at *
  obtain ⟨WW, hWW⟩ : ∃ WW, bs pm 40 1 1099511627776 = WW := ⟨_, rfl⟩
  have HWW := hide hWW
  rw [hWW]
  clear hWW
  have ZB := hide ((Below.refl w.heap.size w).alloc (Nat.le_refl _) (.cells #[S k.nm, fl k.lv, I k.tm] 65))
  obtain ⟨k0, k1, k2⟩ := k
  simp only at *
  go_enter Try.func27, Try.ntmps27
  go_wp2
  go_loopw [9, 10] (fun i j wr => ∃ f a z : Nat, i = .int .i64 a ∧ j = .int .i64 z ∧ 1 ≤ a ∧ z ≤ 1099511627776 ∧ a ≤ z ∧ z - a < 2 ^ f ∧ bs pm f a z = WW ∧ Below (w.heap.size + 1) (w.alloc (.cells #[S k0, fl k1, I k2] 65)) wr) (fun i j _ => (Go.RowKit.intOf j).toNat - (Go.RowKit.intOf i).toNat)
  case atStart => exact ⟨40, 1, 1099511627776, rfl, rfl, by omega, by omega, by omega, by decide, unhide HWW, by have := Below.refl (w.heap.size + 1) (w.alloc (.cells #[S k0, fl k1, I k2] 65)); exact this⟩
  case round =>
    obtain ⟨f, a, z, rfl, rfl, ha1, hz1, haz, hf, hbs, hb⟩ := hrel
    have HB := hide hb
    have HBS := hide hbs
    have HF := hide hf
    by_cases hlt : a < z
    · obtain ⟨z0, z1, z2, zl⟩ := box_cells hb
      have hlt' : (a : Int) < (z : Int) := by omega
      have hm : (a + z) / 2 ≤ 1099511627776 := by omega
      have HM1 := hide (show a ≤ (a + z) / 2 ∧ (a + z) / 2 < z by omega)
      obtain ⟨g, hg⟩ := fuel_pos hf hlt
      subst hg
      have HL := hide (bs_lo (p := pm) (f := g) hlt)
      have HH := hide (bs_hi (p := pm) (f := g) hlt)
      have HE := hide (show 2 ^ (g + 1) = 2 * 2 ^ g by rw [Nat.pow_succ, Nat.mul_comm])
      have hC := unhide HLV wr ((unhide ZB).trans ((unhide HB).mono (by omega))) ((a + z) / 2) hm
      have hge := unhide HGE ((a + z) / 2)
      rw [← unhide HPM ((a + z) / 2)] at hge
      have he : ((d + (a + z) / 2 : Nat) : Int) = (d : Int) + ((a : Int) + (z : Int)) / 2 := by omega
      rw [he] at hC
      have HC := hide hC
      have HMI := hide (show (((a + z) / 2 : Nat) : Int) = ((a : Int) + (z : Int)) / 2 by omega)
      clear hb hbs hf hm hC he hlt hlt'
      have hlt' : (a : Int) < (z : Int) := (unhide HM1).2 |> fun h => by have := (unhide HM1).1; omega
      cases hp : pm ((a + z) / 2) with
      | true =>
        rw [hp] at hge
        have HGE2 := hide hge
        have HBS2 := hide ((unhide HL hp).symm.trans (unhide HBS))
        clear hge hp
        go_wp2_with (refine (unhide HC).mono ?_; rintro e w1 ⟨rfl, b1⟩; have HB1 := hide b1; have hge := unhide HGE2; clear b1)
        go_roundw
        case rel =>
          have h1 := unhide HM1
          have h2 := unhide HF
          have h3 := unhide HE
          exact ⟨g, a, (a + z) / 2, rfl, by rw [unhide HMI], ha1, by omega, by omega, by omega, unhide HBS2, (unhide HB).trans ((unhide HB1).mono (by simpa using (unhide HB).size))⟩
        case measure =>
          have h1 := unhide HM1
          have h2 := unhide HMI
          simp [intOf]; omega
      | false =>
        rw [hp] at hge
        have HGE2 := hide hge
        have HBS2 := hide ((unhide HH (by rw [hp]; simp)).symm.trans (unhide HBS))
        clear hge hp
        go_wp2_with (refine (unhide HC).mono ?_; rintro e w1 ⟨rfl, b1⟩; have HB1 := hide b1; have hge := unhide HGE2; clear b1)
        go_roundw
        case rel =>
          have h1 := unhide HM1
          have h2 := unhide HF
          have h3 := unhide HE
          have h4 := unhide HMI
          refine ⟨g, (a + z) / 2 + 1, z, ?_, rfl, by omega, by omega, by omega, by omega, unhide HBS2, (unhide HB).trans ((unhide HB1).mono (by simpa using (unhide HB).size))⟩
          rw [show (((a + z) / 2 + 1 : Nat) : Int) = ((a : Int) + (z : Int)) / 2 + 1 by omega]
        case measure =>
          have h1 := unhide HM1
          have h2 := unhide HMI
          simp [intOf]; omega
    · have hlt' : ¬ (a : Int) < (z : Int) := by omega
      have HE := hide ((bs_end (p := pm) (f := f) hlt).symm.trans hbs)
      clear hb hbs hf
      go_wp2
      go_ret
      refine ⟨ret_int ?_, (unhide ZB).trans ((unhide HB).mono (by omega))⟩
      rw [← unhide HE]
end Go.Proofs.Yteejnfkbjdpccaa
