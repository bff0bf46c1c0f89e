import Derived.Test.YtjopnhhdemfniaaGreatDoorQbj
import Derived.Test.YtjopnhhdemfniaaGreatDoorZqbe
import Derived.Deep.CutRange
import Derived.Deep.CutBlock
import Derived.Test.YtjopnhhdemfniaaGreatDoorZqaf
namespace Go.Proofs.YtjopnhhdemfniaaGreatDoor
open Go.RowKit
set_option maxHeartbeats 16000000
set_option maxRecDepth 8000
variable {m : Nat} {gen root : Int} {ps : List Pg} {l : List Pn} {last : List Bs} {p : Pr} {P D : Nat} {vw vl vu : Value} {al : Int}
theorem fre_two (ps : List Pg) (l : List Pn) : fre 2 ps l = [] := by simp [fre, List.range_succ]
theorem fre_next (ps : List Pg) (l : List Pn) (k : Nat) (hk : 2 ≤ k) : fre (k + 1) ps l = fre k ps l ++ (if usd ps l k = true then [] else [(k : Int)]) := by
  unfold fre
  rw [List.range_succ, List.filter_append, List.map_append]
  cases h : usd ps l k <;> simp [h, hk]
theorem fre_len (ps : List Pg) (l : List Pn) (k : Nat) : (fre k ps l).length ≤ k := by
  unfold fre
  rw [List.length_map]
  exact Nat.le_trans (List.length_filter_le _ _) (by simp)
theorem owns_sz {n m g c : Nat} {e : TypeId} {w0 : World} {xs : List Value} (h : w0.ownsRow 0 e n (.slice (some ⟨g, 0, none⟩) m c) m xs) : g ≤ w0.heap.size := by
  obtain ⟨cs, q⟩ := owns_lt h g rfl
  exact Nat.le_of_lt (lt_of_row q)
theorem Hds.nextA (h : Hds m gen root ps l last p) {W : World} (hD : PD P D (Lv [] last al) p vw vl vu W) :
    Calls Tryz.prog 48 #[ptr P, I ((fre m ps l).length : Nat)] W fun e w' => ∃ V, e = .returned (.tuple #[V, I 0]) ∧ InsOut (fre m ps l) W V w' ∧ PD P D (Lv [] last al) p vw vl vu w' ∧ Only (fun k => k = P) W w' := by
  have := h.nexts hD (fre m ps l).length (by have := fre_len ps l m; have := h.m8; omega)
  rw [if_neg (Nat.lt_irrefl _), List.take_length] at this
  exact this
theorem Hds.nextB (h : Hds m gen root ps l last p) {W : World} (hD : PD P D (Lv [] last al) p vw vl vu W) :
    Calls Tryz.prog 48 #[ptr P, .int .i64 (((fre m ps l).length : Int) + 1)] W fun e w' => ∃ V, e = .returned (.tuple #[V, I 92]) ∧ PD P D (Lv [] last al) p vw vl vu w' ∧ Only (fun k => k = P) W w' := by
  have := h.nexts hD ((fre m ps l).length + 1) (by have := fre_len ps l m; have := h.m8; omega)
  rw [if_pos (by omega)] at this
  refine this.mono ?_
  rintro e w' ⟨V, rfl, _, h1, h2⟩
  exact ⟨V, rfl, h1, h2⟩
theorem holds_any (h : Hds m gen root ps l last p) (nt : Bs) (a : Option Addr) (n cap : Nat) (q : Option Addr) (c : Nat) (w : World) (hD : PD P D (Lv [] last al) p vw vl vu w) (hF : Frm (fun k => k = P) w (fun W => Pns W a n l ∧ Pgs W q ps.length ps)) (hps : ps.length ≤ 1000000) (hpn : ∀ x ∈ l, x.2.length ≤ 1000000) :
    Calls Tryz.prog 52 #[ptr P, .slice a n cap, .agg #[I gen, I root, S nt, .slice q ps.length c], I (m : Int)] w fun e w' => e = .returned (.bool true) ∧ PD P D (Lv [] last al) p vw vl vu w' ∧ Only (fun k => k = P) w w' := by
  have hn4 := (len4 h.pl h.pk).1
  have hnl : n = l.length := hF.here.1.1
  have hg0 := heap_alloc_new w (.cells #[I gen, I root, S nt, .slice q ps.length c] 83)
  have b1 := (Below.refl w.heap.size w).alloc (Nat.le_refl _) (.cells #[I gen, I root, S nt, .slice q ps.length c] 83)
  have HX := hide hg0
  have HDA := hide (hD.below b1)
  have HFA := hide (hF.below b1)
  have HOA := hide (Only.of_below (P := fun k => k = P) b1)
  have hPX := hD.lt
  have HH := hide h
  have HRD := hide (fun (W : World) (hD : PD P D (Lv [] last al) p vw vl vu W) (x : Pg) (hx : x ∈ ps ∨ ∃ y ∈ l, x ∈ y.2) => h.read hD x hx)
  have HPN := hide hpn
  have HNL := hide hnl
  have hm8 := h.m8
  clear hg0 b1 hD hF h hpn hnl
  have hn4' : n ≤ 4 := by have := unhide HNL; omega
  generalize hWA : w.alloc (.cells #[I gen, I root, S nt, .slice q ps.length c] 83) = WA at *
  have HWA := hide hWA
  go_enter Tryz.func52, Tryz.ntmps52
  go_upto_region 1 with fail
  clear hWA
  obtain ⟨X, hXe⟩ : ∃ X, X = w.heap.size := ⟨_, rfl⟩
  rw [← hXe] at HX hPX ⊢
  have HXE := hide hXe
  clear hXe
  go_wp2
  go_loopw [9] (fun i wr => ∃ j : Nat, j ≤ n ∧ i = .int .i64 j ∧ PD P D (Lv [] last al) p vw vl vu wr ∧ Only (fun k => k = P) WA wr) (fun i _ => n - (Go.RowKit.intOf i).toNat)
  case atStart => exact ⟨0, by omega, rfl, unhide HDA, Only.refl _ _⟩
  case round =>
    obtain ⟨j, hj, rfl, hD, ho⟩ := hrel
    by_cases hlt : j < n
    · have hlt' : (j : Int) < (n : Int) := by omega
      have HD0 := hide hD
      have HO0 := hide ho
      obtain ⟨xp, hxp⟩ : ∃ xp, (l.getD j noPn).2 = xp := ⟨_, rfl⟩
      have hjl : j < l.length := by have := unhide HNL; omega
      have hin : ∀ k, k < xp.length → (xp.getD k noPg ∈ ps ∨ ∃ y ∈ l, xp.getD k noPg ∈ y.2) := fun k hk => .inr ⟨l.getD j noPn, getD_in l noPn j hjl, by rw [hxp]; exact getD_in xp noPg k hk⟩
      have hxl : xp.length ≤ 1000000 := by rw [← hxp]; exact unhide HPN _ (getD_in l noPn j hjl)
      have HIN := hide hin
      have HXP := hide hxp
      clear hD ho hin hxp
      go_wp2
      go_loopw [10] (fun i wr => ∃ k : Nat, k ≤ xp.length ∧ i = .int .i64 k ∧ PD P D (Lv [] last al) p vw vl vu wr ∧ Only (fun k => k = P) WA wr) (fun i _ => xp.length - (Go.RowKit.intOf i).toNat)
      case atStart => exact ⟨0, by omega, rfl, unhide HD0, unhide HO0⟩
      case round =>
        obtain ⟨k, hk, rfl, hD, ho⟩ := hrel
        have hf := (unhide HFA) wr ho
        obtain ⟨g, o, q1, c1, rfl, hgl, _, hc1, hpg⟩ := hf.1.at hlt
        rw [unhide HXP] at hc1 hpg
        have HD := hide hD
        have HO := hide ho
        have HPG := hide hpg
        by_cases hkl : k < xp.length
        · have hkl' : (k : Int) < (xp.length : Int) := by omega
          obtain ⟨g2, o2, q2, c2, rfl, hg2, d0, d1, d2, d3, d4, hi2⟩ := hpg.at hkl
          have HRX := hide (unhide HRD wr hD _ (unhide HIN k hkl))
          generalize hxk : xp.getD k noPg = x at *
          have HXK := hide hxk
          have HI2 := hide hi2
          clear hD ho hpg hf hi2 hxk
          go_wp2_with fail
          refine (unhide HRX).mono ?_
          rintro e w1 ⟨q9, c9, rfl, i9, hD9, o9⟩
          unfold pga
          have hxlk : x.links.length ≤ 1000 := by
            have := (unhide HH).links (xp.getD k noPg) (by have := unhide HIN k hkl; rw [unhide HXK] at this ⊢; exact this)
            rwa [unhide HXK] at this
          obtain ⟨f1, g1⟩ := box_fill w1 x.kind x.number x.birth q9 x.links.length c9 x.body
          have HA1 := hide (heap_alloc_new w1 (.cells #[I 0, I 0, I 0, .slice none 0 0, .string ⟨#[]⟩] 24))
          have HG1 := hide g1
          have HI9 := hide (i9.below f1)
          have HD9 := hide (hD9.below f1)
          have HO9 := hide (((unhide HO).trans o9 (fun _ _ q => q)).trans (Only.of_below (P := fun k => k = P) f1) (fun _ _ q => q))
          clear f1 g1 i9 hD9 o9 hc1 d0 d1 d2 d3 d4 hg2 hgl HI2 HRX HD HO HPG
          go_upto_region 8 with (refine wp_st24 rfl (.tmp 11) (.tmp 59) rfl w1.heap.size (by rfl) x.kind x.number x.birth q9 x.links.length c9 x.body (by rfl) _ rfl (unhide HA1) ?_; generalize (w1.alloc (.cells #[I 0, I 0, I 0, .slice none 0 0, .string ⟨#[]⟩] 24)).setRow w1.heap.size #[I x.kind, I x.number, I x.birth, .slice q9 x.links.length c9, S x.body] = w1b at *)
          obtain ⟨g', o', q1', c1', ea, hgl, _, hc1, hpg⟩ := ((unhide HFA) w1b (unhide HO9)).1.at hlt
          cases ea
          rw [unhide HXP] at hc1 hpg
          obtain ⟨g2', o2', q2', c2', ea, hg2, d0, d1, d2, d3, d4, hi2⟩ := hpg.at hkl
          subst ea
          rw [unhide HXK] at d0 d1 d2 d3 d4 hi2
          have HC := hide (And.intro hc1 (And.intro d0 (And.intro d1 (And.intro d2 (And.intro d3 d4)))))
          have HI2 := hide hi2
          have HGG := hide (And.intro hgl hg2)
          clear hc1 d0 d1 d2 d3 d4 hi2 hpg hgl hg2
          refine rho8 w1.heap.size g o n cap j g2' o2' xp.length c1' k (pga x q9 c9) (pga x q2' c2') (by kernel_rfl) (by kernel_rfl) (by kernel_rfl) _ _ (by show 71 ≤ Array.size _; simp) rfl rfl rfl rfl (fun _ _ W => Below w1b.heap.size w1b W) ⟨(), (Below.refl _ _).drew⟩ ?_ ?_ ?_ ?_ ?_ ?_ ?_ ?_
          · exact fun _ _ _ _ _ h => h
          · intro _ _ W hW _
            exact s_ldr Tryz.isAgg24 Tryz.sizeOf24 ((hW.block _ (lt_of_row (unhide HG1))).trans (unhide HG1)) [I x.kind, I x.number, I x.birth, .slice q9 x.links.length c9, S x.body] rfl rfl
          · exact fun W => s_x90 g o n cap j hlt
          · intro _ _ W hW _ _
            exact s_ld Tryz.isAgg27 ((hW.cell (unhide HGG).1).trans (unhide HC).1)
          · exact fun W => s_x27 g2' o2' xp.length c1' k hkl
          · intro _ _ W hW _ _
            obtain ⟨_, d0, d1, d2, d3, d4⟩ := unhide HC
            have hg2 := (unhide HGG).2
            exact s_l24 ((hW.cell hg2).trans d0) ((hW.cell hg2).trans d1) ((hW.cell hg2).trans d2) ((hW.cell hg2).trans d3) ((hW.cell hg2).trans d4)
          · intro _ L W hW _ _ _
            refine (samePage_any x x q9 q2' c9 c2' W ((unhide HI9).below hW) ((unhide HI2).below hW) (by omega) (by omega)).mono ?_
            rintro e W' ⟨rfl, hb⟩
            exact ⟨(), fun _ _ => rfl, by rw [smp_self]; rfl, hW.trans (hb.mono hW.size)⟩
          intro _ _ W _ hW
          have HDW := hide ((unhide HD9).below hW)
          have HOW := hide ((unhide HO9).trans (Only.of_below (P := fun k => k = P) hW) (fun _ _ q => q))
          clear hW HI9 HG1 HD9 HO9 HA1 HC HI2 HGG
          simp only [Act.put, List.setIfInBounds_toArray, List.set_cons_succ, List.set_cons_zero]
          unfold pga
          go_wp2
          go_round
          case measure => simp [Go.RowKit.intOf] <;> omega
          case rel => exact ⟨k + 1, by omega, by simp, unhide HDW, unhide HOW⟩
        · have hkl' : ¬ (k : Int) < (xp.length : Int) := by omega
          clear hD ho hpg hf HPG
          go_wp2
          exact ⟨⟨j + 1, by omega, by simp, unhide HD, unhide HO⟩, by simp [Go.RowKit.intOf] <;> omega⟩
    · obtain rfl : j = n := by omega
      have hlt' : ¬ (j : Int) < (j : Int) := by omega
      have HD1 := hide hD
      have HO1 := hide ho
      clear hD ho HDA
      go_wp2
      go_loopw [14] (fun i wr => ∃ k : Nat, k ≤ ps.length ∧ i = .int .i64 k ∧ PD P D (Lv [] last al) p vw vl vu wr ∧ Only (fun k => k = P) WA wr) (fun i _ => ps.length - (Go.RowKit.intOf i).toNat)
      case atStart => exact ⟨0, by omega, rfl, unhide HD1, unhide HO1⟩
      case round =>
        obtain ⟨k, hk, rfl, hD, ho⟩ := hrel
        have hxr := (ho.block X (lt_of_row (unhide HX)) (by omega)).trans (unhide HX)
        have x3 := cell_of_row _ _ 3 _ 83 (0, 0) hxr
        have hxl := lt_of_row hxr
        have HXR := hide hxr
        clear hxr
        by_cases hkl : k < ps.length
        · have hkl' : (k : Int) < (ps.length : Int) := by omega
          obtain ⟨g2, o2, q2, c2, eq2, hg2, d0, d1, d2, d3, d4, hi2⟩ := ((unhide HFA) wr ho).2.at hkl
          subst eq2
          have hin : ps.getD k noPg ∈ ps ∨ ∃ y ∈ l, ps.getD k noPg ∈ y.2 := .inl (getD_in ps noPg k hkl)
          have HRX := hide (unhide HRD wr hD _ hin)
          have hxlk := (unhide HH).links _ hin
          generalize hxk : ps.getD k noPg = x at *
          have HXK := hide hxk
          have HO := hide ho
          clear hD ho hi2 hxk hin
          go_wp2_with fail
          refine (unhide HRX).mono ?_
          rintro e w1 ⟨q9, c9, rfl, i9, hD9, o9⟩
          unfold pga
          obtain ⟨f1, g1⟩ := box_fill w1 x.kind x.number x.birth q9 x.links.length c9 x.body
          have HA1 := hide (heap_alloc_new w1 (.cells #[I 0, I 0, I 0, .slice none 0 0, .string ⟨#[]⟩] 24))
          have HG1 := hide g1
          have HI9 := hide (i9.below f1)
          have HD9 := hide (hD9.below f1)
          have HO9 := hide (((unhide HO).trans o9 (fun _ _ q => q)).trans (Only.of_below (P := fun k => k = P) f1) (fun _ _ q => q))
          clear f1 g1 i9 hD9 o9 d0 d1 d2 d3 d4 hg2 HRX HO x3 hxl HXR
          go_upto_region 15 with (refine wp_st24 rfl (.tmp 15) (.tmp 93) rfl w1.heap.size (by rfl) x.kind x.number x.birth q9 x.links.length c9 x.body (by rfl) _ rfl (unhide HA1) ?_; generalize (w1.alloc (.cells #[I 0, I 0, I 0, .slice none 0 0, .string ⟨#[]⟩] 24)).setRow w1.heap.size #[I x.kind, I x.number, I x.birth, .slice q9 x.links.length c9, S x.body] = w1b at *)
          obtain ⟨g2', o2', q2', c2', ea, hg2, d0, d1, d2, d3, d4, hi2⟩ := ((unhide HFA) w1b (unhide HO9)).2.at hkl
          cases ea
          rw [unhide HXK] at d0 d1 d2 d3 d4 hi2
          have hxr := ((unhide HO9).block X (lt_of_row (unhide HX)) (by omega)).trans (unhide HX)
          have HXR := hide hxr
          have HC := hide (And.intro d0 (And.intro d1 (And.intro d2 (And.intro d3 d4))))
          have HI2 := hide hi2
          have HGG := hide hg2
          clear d0 d1 d2 d3 d4 hi2 hg2 hxr
          refine rho15 w1.heap.size X g2 o2 ps.length c k (pga x q9 c9) (pga x q2' c2') (by kernel_rfl) (by kernel_rfl) (by kernel_rfl) _ _ (by show 102 ≤ Array.size _; simp) rfl rfl rfl (fun _ _ W => Below w1b.heap.size w1b W) ⟨(), (Below.refl _ _).drew⟩ ?_ ?_ ?_ ?_ ?_ ?_ ?_
          · exact fun _ _ _ _ _ h => h
          · intro _ _ W hW _
            exact s_ldr Tryz.isAgg24 Tryz.sizeOf24 ((hW.block _ (lt_of_row (unhide HG1))).trans (unhide HG1)) [I x.kind, I x.number, I x.birth, .slice q9 x.links.length c9, S x.body] rfl rfl
          · intro _ _ W hW _ _
            exact s_ld Tryz.isAgg27 (cell_of_row _ _ 3 _ 83 (0, 0) ((hW.block _ (lt_of_row (unhide HXR))).trans (unhide HXR)))
          · exact fun W => s_x27 g2 o2 ps.length c k hkl
          · intro _ _ W hW _ _
            obtain ⟨d0, d1, d2, d3, d4⟩ := unhide HC
            have hg2 := unhide HGG
            exact s_l24 ((hW.cell hg2).trans d0) ((hW.cell hg2).trans d1) ((hW.cell hg2).trans d2) ((hW.cell hg2).trans d3) ((hW.cell hg2).trans d4)
          · intro _ L W hW _ _ _
            refine (samePage_any x x q9 q2' c9 c2' W ((unhide HI9).below hW) ((unhide HI2).below hW) (by omega) (by omega)).mono ?_
            rintro e W' ⟨rfl, hb⟩
            exact ⟨(), fun _ _ => rfl, by rw [smp_self]; rfl, hW.trans (hb.mono hW.size)⟩
          intro _ _ W _ hW
          have HDW := hide ((unhide HD9).below hW)
          have HOW := hide ((unhide HO9).trans (Only.of_below (P := fun k => k = P) hW) (fun _ _ q => q))
          clear hW HI9 HG1 HD9 HO9 HA1 HC HI2 HGG
          simp only [Act.put, List.setIfInBounds_toArray, List.set_cons_succ, List.set_cons_zero]
          unfold pga
          go_wp2
          go_round
          case measure => simp [Go.RowKit.intOf] <;> omega
          case rel => exact ⟨k + 1, by omega, by simp, unhide HDW, unhide HOW⟩
        · obtain rfl : k = ps.length := by omega
          have hkl' : ¬ ((ps.length : Nat) : Int) < ((ps.length : Nat) : Int) := by omega
          have hfw := (unhide HFA) wr ho
          have HHL := hide (heldL_any a j cap l gen root nt q c ps m wr hfw.1 hfw.2 (by omega) hps (by omega) (fun x hx => ⟨unhide HPN x hx, fun y hy => by have := (unhide HH).pg y (.inr ⟨x, hx, hy⟩); omega⟩) (fun y hy => by have := (unhide HH).pg y (.inl hy); omega))
          have x0 := cell_of_row _ _ 0 _ 83 (0, 0) (unhide HXR)
          have x1 := cell_of_row _ _ 1 _ 83 (0, 0) (unhide HXR)
          have x2 := cell_of_row _ _ 2 _ 83 (0, 0) (unhide HXR)
          have HD := hide hD
          have HO := hide ho
          have HHM := hide (fun z (hz : z ∈ hdl l ps m) => (unhide HH).hdl_mem hz)
          have HMK := hide (unhide HH).marks
          have HHE := hide (unhide HH).held
          have hHl := rls1_len (hdb0 l ps m) m
          rw [show rls1 (hdb0 l ps m) m = hdl l ps m from rfl] at hHl
          generalize hHd : hdl l ps m = H at *
          clear hD ho hfw hHd HRD HD1 HO1
          go_wp2_with fail
          refine (unhide HHL).mono ?_
          rintro e w5 ⟨V, rfl, rV, nV, b5⟩
          obtain ⟨pv, cv, eV⟩ := owns_form rV
          subst eV
          have HRV := hide rV
          have HIV := hide (ins_of rV)
          have HNV := hide nV
          have HD5 := hide ((unhide HD).below b5)
          have HO5 := hide ((unhide HO).trans (Only.of_below (P := fun k => k = P) b5) (fun _ _ q => q))
          clear rV nV b5 x0 x1 x2 x3 hxl HXR HHL HD HO
          obtain ⟨hl, hHL⟩ : ∃ hl, H.length = hl := ⟨_, rfl⟩
          have HHLN := hide hHL
          rw [hHL] at hHl HRV HIV HNV ⊢
          clear hHL
          go_wp2_with (refine make_own 154 4 _ 1 1 Tryz.underlying154 info4 rfl (.tmp 112) (.tmp 112) rfl _ _ m (by rfl) (by rfl) rfl rfl (by omega) (by omega) ?_; intro w6 ho6 b6 l6; rw [Nat.mul_one, made1 _ rfl m] at ho6; have HO6 := hide ho6; have HB6 := hide b6; clear ho6 b6 l6)
          go_loopw [20] (fun i wr => ∃ k : Nat, k ≤ hl ∧ i = .int .i64 k ∧ wr.ownsRow 0 4 1 (.slice (some ⟨w5.heap.size, 0, none⟩) m m) m (bvs (mkb (H.take k) true (List.replicate m false))) ∧ Below w5.heap.size w5 wr) (fun i _ => hl - (Go.RowKit.intOf i).toNat)
          case atStart => exact ⟨0, by omega, rfl, by simpa [bvs, mkb] using unhide HO6, unhide HB6⟩
          case round =>
            obtain ⟨k, hk, rfl, ho, hb⟩ := hrel
            by_cases hkl : k < hl
            · have hkl' : (k : Int) < (hl : Int) := by omega
              have hin : H.getD k 0 ∈ H := getD_in H 0 k (by have := unhide HHLN; omega)
              have hi5 := (unhide HIV).below hb
              rw [show hl = H.length from (unhide HHLN).symm] at hi5
              obtain ⟨gz, oz, ez, hgz, hcz⟩ := hi5.at (j := k) (by have := unhide HHLN; omega)
              subst ez
              obtain ⟨zn, hze, hzm, _⟩ := unhide HHM _ hin
              have hnx := take_next H k (by have := unhide HHLN; omega)
              rw [hze] at hcz hnx
              have hzm' : (zn : Int) < (m : Int) := by omega
              have hst := owns_set ho zn (.bool true)
              rw [bvs_set] at hst
              have HST := hide (show (wr.setCell ⟨w5.heap.size, zn, none⟩ (.bool true)).ownsRow 0 4 1 (.slice (some ⟨w5.heap.size, 0, none⟩) m m) m (bvs (mkb (H.take (k + 1)) true (List.replicate m false))) by
                rw [hnx, mkb_app]
                exact hst)
              obtain ⟨gg, cc, cur, ee, hh, _⟩ := owns_at ho (by omega)
              cases ee
              have hcell : ∃ u, wr.cell? ⟨w5.heap.size, zn, none⟩ = some u := ⟨_, owns_cell ho zn _ (List.getElem?_eq_getElem (by unfold bvs; rw [List.length_map, mkb_len, List.length_replicate]; exact hzm))⟩
              obtain ⟨u0, hu0⟩ := hcell
              have hfz := frz hh zn
              have hwl := lt_of_row hh
              have HB3 := hide (hb.setCell (p := ⟨w5.heap.size, zn, none⟩) (Nat.le_refl _) (.bool true))
              clear ho hb hst hnx hh hin hi5 hze
              go_wp2
              go_round
              case measure => simp [Go.RowKit.intOf] <;> omega
              case rel => exact ⟨k + 1, by omega, by simp, unhide HST, unhide HB3⟩
            · obtain rfl : k = hl := by omega
              have hkl' : ¬ (k : Int) < (k : Int) := by omega
              rw [List.take_of_length_le (by have := unhide HHLN; omega)] at ho
              have HBL := hide (show (mkb H true (List.replicate m false)).length = m by rw [mkb_len, List.length_replicate])
              generalize mkb H true (List.replicate m false) = bh at *
              have HO := hide ho
              have HB := hide hb
              clear ho hb HO6 HB6 HHM
              go_wp2
              go_loopw [21] (fun i wr => ∃ k : Nat, k ≤ ps.length ∧ i = .int .i64 k ∧ wr.ownsRow 0 4 1 (.slice (some ⟨w5.heap.size, 0, none⟩) m m) m (bvs (mkb ((ps.map Pg.number).take k) true bh)) ∧ Below w5.heap.size w5 wr) (fun i _ => ps.length - (Go.RowKit.intOf i).toNat)
              case atStart => exact ⟨0, by omega, rfl, by simpa [mkb] using unhide HO, unhide HB⟩
              case round =>
                obtain ⟨k2, hk2, rfl, ho, hb⟩ := hrel
                have hoA := (unhide HO5).trans (Only.of_below (P := fun k => k = P) hb) (fun _ _ q => q)
                have hxr := (hoA.block X (lt_of_row (unhide HX)) (by omega)).trans (unhide HX)
                have x3 := cell_of_row _ _ 3 _ 83 (0, 0) hxr
                have hxl := lt_of_row hxr
                clear hxr
                by_cases hkl : k2 < ps.length
                · have hkl' : (k2 : Int) < (ps.length : Int) := by omega
                  obtain ⟨g2, o2, q2, c2, eq2, hg2, d0, d1, d2, d3, d4, hi2⟩ := ((unhide HFA) wr hoA).2.at hkl
                  subst eq2
                  have hrg := (unhide HH).pg (ps.getD k2 noPg) (.inl (getD_in ps noPg k2 hkl))
                  have hnx := take_next (ps.map Pg.number) k2 (by simp; omega)
                  rw [show (ps.map Pg.number).getD k2 0 = (ps.getD k2 noPg).number by simp [hkl]] at hnx
                  have hrg1 : 0 ≤ (ps.getD k2 noPg).number ∧ (ps.getD k2 noPg).number < m := by omega
                  clear hrg
                  generalize (ps.getD k2 noPg).number = z at *
                  obtain ⟨zn, rfl⟩ := Int.eq_ofNat_of_zero_le hrg1.1
                  have hzm : zn < m := by omega
                  have hzm' : (zn : Int) < (m : Int) := by omega
                  have hst := owns_set ho zn (.bool true)
                  rw [bvs_set] at hst
                  have HST := hide (show (wr.setCell ⟨w5.heap.size, zn, none⟩ (.bool true)).ownsRow 0 4 1 (.slice (some ⟨w5.heap.size, 0, none⟩) m m) m (bvs (mkb ((ps.map Pg.number).take (k2 + 1)) true bh)) by
                    rw [hnx, mkb_app]
                    exact hst)
                  obtain ⟨gg, cc, cur, ee, hh, _⟩ := owns_at ho (by omega)
                  cases ee
                  have hcell : ∃ u, wr.cell? ⟨w5.heap.size, zn, none⟩ = some u := ⟨_, owns_cell ho zn _ (List.getElem?_eq_getElem (by unfold bvs; rw [List.length_map, mkb_len, unhide HBL]; exact hzm))⟩
                  obtain ⟨u0, hu0⟩ := hcell
                  have hfz := frz hh zn
                  have hwl := lt_of_row hh
                  have HB3 := hide (hb.setCell (p := ⟨w5.heap.size, zn, none⟩) (Nat.le_refl _) (.bool true))
                  clear ho hb hst hnx hh d0 d2 d3 d4 hi2 hrg1 hoA
                  go_wp2
                  go_round
                  case measure => simp [Go.RowKit.intOf] <;> omega
                  case rel => exact ⟨k2 + 1, by omega, by simp, unhide HST, unhide HB3⟩
                · obtain rfl : k2 = ps.length := by omega
                  have hkl' : ¬ ((ps.length : Nat) : Int) < ((ps.length : Nat) : Int) := by omega
                  rw [List.take_of_length_le (by simp)] at ho
                  have HBL2 := hide (show (mkb (ps.map Pg.number) true bh).length = m by rw [mkb_len, unhide HBL])
                  generalize mkb (ps.map Pg.number) true bh = bm at *
                  have HOM := hide ho
                  have HD7 := hide ((unhide HD5).below hb)
                  have HO7 := hide hoA
                  have hs5 := hb.size
                  have HP5 := hide (unhide HD5).lt
                  clear ho hb hoA HO HB
                  go_wp2
                  go_loopw [22, 23] (fun v i wr => ∃ k : Nat, 2 ≤ k ∧ k ≤ m ∧ i = .int .i64 k ∧ wr.ownsRow 0 4 1 (.slice (some ⟨w5.heap.size, 0, none⟩) m m) m (bvs bm) ∧ wr.ownsRow 0 3 1 v (fre k ps l).length ((fre k ps l).map fun z => I z) ∧ (∀ q, v.ownBlock = some q → w5.heap.size ≤ q) ∧ PD P D (Lv [] last al) p vw vl vu wr ∧ Only (fun k => k = P) WA wr) (fun _ i _ => m - (Go.RowKit.intOf i).toNat)
                  case atStart => exact ⟨2, Nat.le_refl _, by omega, rfl, unhide HOM, by rw [fre_two]; exact owns_nil _ _ _, (fun _ q => nomatch q), unhide HD7, unhide HO7⟩
                  case round =>
                    obtain ⟨k3, hk3, hkm, rfl, ho, hv, hvn, hD, hoA⟩ := hrel
                    obtain ⟨pf, cf, rfl⟩ := owns_form hv
                    by_cases hkl : k3 < m
                    · have hkl' : (k3 : Int) < (m : Int) := by omega
                      have hcell := owns_cell ho k3 (.bool (bm.getD k3 false)) (by have := unhide HBL2; simp [bvs, show k3 < bm.length by omega])
                      have hcl := blk_lt hcell
                      have hnx := fre_next ps l k3 hk3
                      have hln := fre_len ps l k3
                      rw [unhide HMK k3 hkl] at hcell
                      have HO := hide ho
                      have HV := hide hv
                      have HVN := hide hvn
                      have HD := hide hD
                      have HOA3 := hide hoA
                      clear ho hv hvn hD hoA
                      cases hus : usd ps l k3
                      · rw [hus] at hcell hnx
                        rw [if_neg (by simp)] at hnx
                        have HNX := hide hnx
                        have HUS := hide hus
                        generalize hlk : (fre k3 ps l).length = lk at *
                        have HLK := hide hlk
                        clear hnx hus hlk
                        go_wp2_with (at_builtin; refine push_own 22 3 _ 1 8 Tryz.underlying22 info3 rfl (by decide) rfl (.tmp 151) (.tmp 153) rfl (.slice pf lk cf) lk _ (by rfl) wr (unhide HV) [I (k3 : Int)] rfl (by simp [Value.oneCell']) (by rfl) (by omega) (by omega) ?_)
                        intro p8 c8 w8 r8 o8 n8
                        have hnP : ∀ k, POf P D vw vl vu k → ¬ (Value.slice pf lk cf).ownBlock = some k := fun k hk e => by
                          have h1 := (unhide HD5).old k hk
                          have h2 := unhide HVN k e
                          omega
                        have HD8 := hide ((unhide HD).only o8 hnP)
                        have HOA8 := hide ((unhide HOA3).trans o8 (fun k hk e => by
                          have h2 := unhide HVN k e
                          have h3 := (unhide HO5).size
                          omega))
                        have HR8 := hide (show w8.ownsRow 0 3 1 (.slice p8 (lk + 1) c8) (fre (k3 + 1) ps l).length ((fre (k3 + 1) ps l).map fun z => I z) by
                          rw [unhide HNX, List.length_append, List.length_singleton, unhide HLK]
                          simpa using r8)
                        have HO8 := hide (owns_only (unhide HO) o8 (rows_ne (unhide HO) (unhide HV) (by decide)))
                        have HV8 := hide (fun q (hq : (Value.slice p8 (lk + 1) c8).ownBlock = some q) => (n8 q hq).elim (unhide HVN q) (fun r => Nat.le_trans (owns_sz (unhide HO)) r))
                        clear r8 o8 n8 hnP
                        have HRD0 := hide ((unhide HH).read0 (unhide HD8) k3 hkl (unhide HUS))
                        go_wp2_with fail
                        refine (unhide HRD0).mono ?_
                        rintro e w9 ⟨q9, c9, rfl, hD9, o9⟩
                        obtain ⟨f1, g1⟩ := box_fill w9 0 0 0 q9 0 c9 []
                        have HA1 := hide (heap_alloc_new w9 (.cells #[I 0, I 0, I 0, .slice none 0 0, .string ⟨#[]⟩] 24))
                        have HD9 := hide (hD9.below f1)
                        have o9' := o9.trans (Only.of_below (P := fun k => k = P) f1) (fun _ _ q => q)
                        have HOA9 := hide ((unhide HOA8).trans o9' (fun _ _ q => q))
                        have HO9 := hide (owns_only (unhide HO8) o9' (row_ne (unhide HO8) (unhide HD8).blk (by decide)))
                        have HR9 := hide (owns_only (unhide HR8) o9' (row_ne (unhide HR8) (unhide HD8).blk (by decide)))
                        clear f1 g1 hD9 o9 o9' HRD0 hcell hcl
                        go_wp2_with (refine wp_st24 rfl (.tmp 24) (.tmp 159) rfl w9.heap.size (by rfl) 0 0 0 q9 0 c9 [] (by rfl) _ rfl (unhide HA1) ?_; generalize (w9.alloc (.cells #[I 0, I 0, I 0, .slice none 0 0, .string ⟨#[]⟩] 24)).setRow w9.heap.size #[I 0, I 0, I 0, .slice q9 0 c9, S []] = w9b at *)
                        go_round
                        case measure => simp [Go.RowKit.intOf] <;> omega
                        case rel => exact ⟨k3 + 1, by omega, by omega, by simp, unhide HO9, unhide HR9, unhide HV8, unhide HD9, unhide HOA9⟩
                      · rw [hus] at hcell hnx
                        rw [if_pos rfl, List.append_nil] at hnx
                        have HR := hide (show wr.ownsRow 0 3 1 (.slice pf (fre k3 ps l).length cf) (fre (k3 + 1) ps l).length ((fre (k3 + 1) ps l).map fun z => I z) by rw [hnx]; exact unhide HV)
                        generalize (fre k3 ps l).length = lk at *
                        clear hnx hus
                        go_wp2
                        go_round
                        case measure => simp [Go.RowKit.intOf] <;> omega
                        case rel => exact ⟨k3 + 1, by omega, by omega, by simp, unhide HO, unhide HR, unhide HVN, unhide HD, unhide HOA3⟩
                    · obtain rfl : k3 = m := by omega
                      have hkl' : ¬ (k3 : Int) < (k3 : Int) := by omega
                      have HNA := hide (fun (W : World) (hD : PD P D (Lv [] last al) p vw vl vu W) => (unhide HH).nextA hD)
                      have HNB := hide (fun (W : World) (hD : PD P D (Lv [] last al) p vw vl vu W) => (unhide HH).nextB hD)
                      have hln := fre_len ps l k3
                      have HFE := hide (unhide HH).free
                      have HV := hide hv
                      have HIF := hide (ins_of hv)
                      have HVN := hide hvn
                      have HD := hide hD
                      have HOA3 := hide hoA
                      have HNA1 := hide ((unhide HNA) _ hD)
                      obtain ⟨F, hFe⟩ : ∃ F, fre k3 ps l = F := ⟨_, rfl⟩
                      rw [hFe] at HNA1 HNB HFE HV HIF HVN hln ⊢
                      clear hFe ho hv hvn hD hoA HNA
                      go_wp2_with fail
                      refine (unhide HNA1).mono ?_
                      rintro e wA ⟨vA, rfl, iA, hDA, oA⟩
                      obtain ⟨pA, cA, eA⟩ := owns_form iA.1
                      subst eA
                      have rf1 := owns_only (unhide HV) oA (row_ne (unhide HV) (unhide HD).blk (by decide))
                      have HRA := hide iA.1
                      have HRF := hide rf1
                      have HDA := hide hDA
                      have HOAA := hide ((unhide HOA3).trans oA (fun _ _ q => q))
                      have HNB1 := hide (unhide HNB wA hDA)
                      clear iA hDA oA rf1 HNB HNA1 HV HIF HD HOA3
                      go_wp2_with fail
                      refine (unhide HNB1).mono ?_
                      rintro e wB ⟨vB, rfl, hDB, oB⟩
                      have iA := ins_of (owns_only (unhide HRA) oB (row_ne (unhide HRA) (unhide HDA).blk (by decide)))
                      have iF := ins_of (owns_only (unhide HRF) oB (row_ne (unhide HRF) (unhide HDA).blk (by decide)))
                      have HIN := hide (ints_any pA pf F.length F.length cA cf F F wB iA iF (by omega) (by omega))
                      have HDB := hide hDB
                      have HOB := hide ((unhide HOAA).trans oB (fun _ _ q => q))
                      clear iA iF hDB oB HNB1 HRA HRF HDA HOAA
                      go_wp2_with fail
                      refine (unhide HIN).mono ?_
                      rintro e wC ⟨rfl, bC⟩
                      rw [show decide True = true from rfl]
                      have hDC := (unhide HDB).below bC
                      have HHC := hide (held_any hDC)
                      have HFC := hide (free_any hDC)
                      rw [unhide HHE, unhide HHLN] at HHC
                      rw [unhide HFE] at HFC
                      have HDC := hide hDC
                      have HOC := hide ((unhide HOA).trans ((unhide HOB).trans (Only.of_below (P := fun k => k = P) bC) (fun _ _ q => q)) (fun _ _ q => q))
                      clear bC hDC HIN HDB HOB
                      go_wp2_with fail
                      refine (unhide HHC).mono ?_
                      rintro e wD ⟨rfl, rfl⟩
                      go_wp2_with fail
                      refine (unhide HFC).mono ?_
                      rintro e wD ⟨rfl, rfl⟩
                      go_wp2
                      go_ret
                      exact ⟨rfl, unhide HDC, unhide HOC⟩
end Go.Proofs.YtjopnhhdemfniaaGreatDoor
/- Pins in a row. -/
namespace Go.Proofs.YtjopnhhdemfniaaGreatDoor
open Go.RowKit
set_option maxHeartbeats 4000000
abbrev Pw := Pn × Value
def pwc (x : Pw) : List Value := [I x.1.1, x.2]
def pws (l : List Pw) : List Value := l.flatMap pwc
theorem pws_len (l : List Pw) : (pws l).length = l.length * 2 := by
  induction l with
  | nil => rfl
  | cons x l ih => simp only [pws, List.flatMap_cons, List.length_append, List.length_cons] at *; rw [ih]; simp [pwc]; omega
theorem pws_cat (l m : List Pw) : pws (l ++ m) = pws l ++ pws m := by simp [pws]
theorem pws_take (L : List Pw) (k : Nat) : (pws L).take (k * 2) = pws (L.take k) := by
  induction L generalizing k with
  | nil => simp [pws]
  | cons x L ih =>
    cases k with
    | zero => simp [pws]
    | succ k =>
      have := ih k
      simp only [pws, List.flatMap_cons, List.take_succ_cons] at *
      rw [show (k + 1) * 2 = (pwc x).length + k * 2 by simp [pwc]; omega, List.take_length_add_append, this]
theorem pws_drop (L : List Pw) (k : Nat) : (pws L).drop (k * 2) = pws (L.drop k) := by
  induction L generalizing k with
  | nil => simp [pws]
  | cons x L ih =>
    cases k with
    | zero => simp [pws]
    | succ k =>
      have := ih k
      simp only [pws, List.flatMap_cons, List.drop_succ_cons] at *
      rw [show (k + 1) * 2 = (pwc x).length + k * 2 by simp [pwc]; omega, List.drop_length_add_append, this]
theorem pws_get (L : List Pw) (j i : Nat) (hj : j < L.length) (hi : i < 2) : (pws L)[j * 2 + i]? = (pwc L[j])[i]? := by
  have h1 : ((pws L).drop (j * 2))[i]? = (pwc L[j])[i]? := by
    rw [pws_drop, ← List.getElem_cons_drop hj]
    simp only [pws, List.flatMap_cons]
    exact List.getElem?_append_left (by simp [pwc]; omega)
  rw [← h1, List.getElem?_drop]
theorem info101p : (Tryz.prog.info? 101).map (fun i => (i.zero, i.size, i.bytes)) = some (some (.agg #[I 0, .slice none 0 0]), 2, 32) := by kernel_rfl
theorem appN_e (T : TypeId) (p q : Option Addr) (n cap c : Nat) (h : n ≤ cap) (w : World) : (Builtin.append_ #[90, 90] T #[.slice p n cap, .slice q 0 c]).run Tryz.prog w = .ok (.slice p n cap) w := by
  have z := Tryz.sizeOf101
  cases p <;> cases q <;> simp [Builtin.append_, go_sem, z, h, Builtin.lenOf, Builtin.firstCells, loadCells, storeCells]
theorem appN_all (T : TypeId) (v : Value) (L M : List Pw) (w : World) (h : w.ownsRow 0 101 2 v L.length (pws L)) (q : Option Addr) (c : Nat) (hM : 0 < M.length → ∃ g o, q = some ⟨g, o, none⟩ ∧ ∀ j u, (pws M)[j]? = some u → w.cell? ⟨g, o + j, none⟩ = some u) (hone : ∀ u ∈ pws M, u.oneCell' = true) (hn : L.length + M.length ≤ 1000000000) :
    ∃ v' w', (Builtin.append_ #[90, 90] T #[v, .slice q M.length c]).run Tryz.prog w = .ok v' w' ∧ w'.ownsRow 0 101 2 v' (L ++ M).length (pws (L ++ M)) ∧ Only (fun k => v.ownBlock = some k) w w' ∧ (∀ k, v'.ownBlock = some k → v.ownBlock = some k ∨ w.heap.size ≤ k) := by
  by_cases h0 : M.length = 0
  · have e : M = [] := List.length_eq_zero_iff.1 h0
    subst e
    have hv : ∃ p cap, v = .slice p L.length cap ∧ L.length ≤ cap := by
      rcases h.2 with ⟨e, q⟩ | ⟨g, cap, cur, e1, _, e2, e3, _⟩
      · exact ⟨none, 0, by rw [e, q], by omega⟩
      · exact ⟨_, cap, e1, e3⟩
    obtain ⟨p, cap, e, hc⟩ := hv
    refine ⟨v, w, by rw [e]; exact appN_e T p q L.length cap c hc w, by rw [List.append_nil]; exact h, Only.refl _ _, fun k hk => .inl hk⟩
  · obtain ⟨g, o, e, hc⟩ := hM (by omega)
    subst e
    obtain ⟨i0, hi, hz0, hz1, hz2⟩ := info_parts info101p
    obtain ⟨v', w', hr, h2, h3, _, h5⟩ := run_append_own_at (P := Tryz.prog) w 0 90 T 101 i0 _ 2 32 Tryz.underlying90 hi hz0 hz1 hz2 rfl (by decide) v L.length (pws L) h ⟨g, o, none⟩ M.length c (pws M) (pws_len M) (fun j u hj => by rw [WideShapes.add_plain]; exact hc j u hj) hone (by unfold maxLen; omega) (by omega) (Nat.zero_le _)
    refine ⟨v', w', hr, ?_, Only.of_grown h3, ?_⟩
    · rw [List.length_append, pws_cat]
      exact h2
    · intro k hk
      rcases h5 with h5 | h5
      · left; rw [← h5]; exact hk
      · right; rw [hk] at h5; have := Option.some.inj h5; omega
theorem wp_appN {ops : Array Oper} {rest : List Oper} {o : Oper} {act : Act} {Q : Exit → Act → World → Prop} (hgd : o.guard = none) (s x : Operand) (ho : o.op = .call { callee := .builtin .append, args := #[s, x], argTypes := #[90, 90] }) (v : Value) (L M : List Pw) (w : World) (hs : act.eval s = v) (h : w.ownsRow 0 101 2 v L.length (pws L)) (q : Option Addr) (c n : Nat) (hx : act.eval x = .slice q n c) (hl : M.length = n) (hM : 0 < M.length → ∃ g o, q = some ⟨g, o, none⟩ ∧ ∀ j u, (pws M)[j]? = some u → w.cell? ⟨g, o + j, none⟩ = some u) (hone : ∀ u ∈ pws M, u.oneCell' = true) (hn : L.length + M.length ≤ 1000000000)
    (hK : ∀ v' w', w'.ownsRow 0 101 2 v' (L ++ M).length (pws (L ++ M)) → Only (fun k => v.ownBlock = some k) w w' → (∀ k, v'.ownBlock = some k → v.ownBlock = some k ∨ w.heap.size ≤ k) → wpList Tryz.prog ops Q rest (act.put o.dst v') w') : wpList Tryz.prog ops Q (o :: rest) act w := by
  obtain ⟨v', w', hr, h2, h3, h4⟩ := appN_all o.type v L M w h q c hM hone hn
  rw [hl] at hr
  refine wpList_plain hgd fun K hK2 => ?_
  unfold Oper.wp execOp
  simp only [ho, resolve, invoke, builtin, Sem.run_bind, Sem.run_pure, Result.andThen_ok, List.map_toArray, List.map_cons, List.map_nil, hs, hx, hr]
  exact hK2 _ _ (hK v' w' h2 h3 h4)
/-- The first pins of a list, and those behind. -/
theorem sl_to (v : Value) (L : List Pw) (w : World) (h : w.ownsRow 0 101 2 v L.length (pws L)) (k : Nat) (hk : k ≤ L.length) :
    ∃ q c, (∀ W, (Instr.sliceAt 90 v none (some (.int .i64 (k : Int))) none).run Tryz.prog W = .ok (.slice q k c) W) ∧ (0 < k → ∃ g, v.ownBlock = some g ∧ q = some ⟨g, 0, none⟩) := by
  have u := Tryz.underlying90
  have z := Tryz.sizeOf101
  rcases h.2 with ⟨e, r⟩ | ⟨g, cap, cur, e1, e0, e2, e3, e4, e5, e6⟩
  · have hk0 : k = 0 := by omega
    subst hk0
    refine ⟨none, 0, fun W => ?_, fun q => by omega⟩
    rw [e]
    simp [Instr.sliceAt, go_sem, u, z]
  · have h1 : (k : Int) ≤ (cap : Int) := by omega
    refine ⟨some ⟨g, 0, none⟩, cap, fun W => ?_, fun _ => ⟨g, by rw [e1]; rfl, rfl⟩⟩
    rw [e1]
    simp [Instr.sliceAt, go_sem, u, z, h1]
theorem sl_from (v : Value) (L : List Pw) (w : World) (h : w.ownsRow 0 101 2 v L.length (pws L)) (k : Nat) (hk : k ≤ L.length) :
    ∃ q c, (∀ W, (Instr.sliceAt 90 v (some (.int .i64 (k : Int))) none none).run Tryz.prog W = .ok (.slice q (L.length - k) c) W) ∧ (0 < L.length - k → ∃ g, v.ownBlock = some g ∧ q = some ⟨g, k * 2, none⟩) := by
  have u := Tryz.underlying90
  have z := Tryz.sizeOf101
  rcases h.2 with ⟨e, r⟩ | ⟨g, cap, cur, e1, e0, e2, e3, e4, e5, e6⟩
  · have hk0 : k = 0 := by omega
    subst hk0
    refine ⟨none, 0, fun W => ?_, fun q => by omega⟩
    rw [e, r]
    simp [Instr.sliceAt, go_sem, u, z]
  · have h1 : (k : Int) ≤ (L.length : Int) := by omega
    rw [e1]
    by_cases hc : cap = k
    · refine ⟨some ⟨g, 0, none⟩, cap - k, fun W => ?_, fun q => by omega⟩
      simp [Instr.sliceAt, go_sem, u, z, h1, hc]
    · refine ⟨some ⟨g, k * 2, none⟩, cap - k, fun W => ?_, fun _ => ⟨g, rfl, rfl⟩⟩
      simp [Instr.sliceAt, go_sem, u, z, h1, hc]
theorem row_part {v : Value} {L : List Pw} {w : World} (h : w.ownsRow 0 101 2 v L.length (pws L)) (k n : Nat) {g : Nat} (hg : v.ownBlock = some g) : ∀ j u, (pws ((L.drop k).take n))[j]? = some u → w.cell? ⟨g, k * 2 + j, none⟩ = some u := by
  intro j u hj
  have h1 : (pws L)[k * 2 + j]? = some u := by
    rw [← pws_take, ← pws_drop] at hj
    have hl : j < n * 2 := by
      have := (List.getElem?_eq_some_iff.1 hj).1
      rw [List.length_take] at this
      omega
    rw [List.getElem?_take, if_pos hl, List.getElem?_drop] at hj
    exact hj
  have := World.ownsRow.cells h hg (k * 2 + j) u h1
  rw [add_at] at this
  exact this
end Go.Proofs.YtjopnhhdemfniaaGreatDoor
