import Derived.Test.YtjopnhhdemfniaaGreatDoorZpme
import Derived.Test.YtjopnhhdemfniaaGreatDoorZpic
import Derived.Test.YtjopnhhdemfniaaGreatDoorRgpa
namespace Go.Proofs.YtjopnhhdemfniaaGreatDoor
open Go.RowKit
set_option maxHeartbeats 8000000
set_option maxRecDepth 8000
variable {B b : Nat} {E : List En} {vF vW : Value} {w w' : World}
theorem rev_next (l : List Int) (j : Nat) (hj : j < l.length) : l.reverse.take (j + 1) = l.reverse.take j ++ [l.getD (l.length - 1 - j) 0] := by
  rw [List.take_succ_eq_append_getElem (by simpa using hj)]
  congr 1
  rw [List.getElem_reverse]
  simp [show l.length - 1 - j < l.length by omega]
theorem s_lss (x y : Operand) (a b : Int) {w : World} : (do eqGuard .lss 3 x y (I a) (I b); binOp .lss 3 (I a) (I b) : Sem Value).run Tryz.prog w = .ok (.bool (decide (a < b))) w := by
  simp [go_sem, eqGuard]
theorem s_geq (x y : Operand) (a b : Int) {w : World} : (do eqGuard .geq 3 x y (I a) (I b); binOp .geq 3 (I a) (I b) : Sem Value).run Tryz.prog w = .ok (.bool (decide (b ≤ a))) w := by
  simp [go_sem, eqGuard]
theorem s_neq (x y : Operand) (a : Int) {w : World} : (do eqGuard .neq 3 x y (I a) (I a); binOp .neq 3 (I a) (I a) : Sem Value).run Tryz.prog w = .ok (.bool false) w := by
  simp [go_sem, eqGuard]
theorem s_ix22 (g o n cap k : Nat) (hk : k < n) {w : World} : (Instr.indexAt 22 (.slice (some ⟨g, o, none⟩) n cap) (.int .i64 (k : Int))).run Tryz.prog w = .ok (.pointer (some ⟨g, o + k, none⟩)) w := by
  have h1 : (k : Int) < (n : Int) := by omega
  have u := Tryz.underlying22
  have z := Tryz.sizeOf3
  simp [go_sem, u, z, h1]
theorem own_lo (l : List Int) (j : Nat) (h : j < l.length) : (l ++ List.replicate 8 (-77 : Int)).getD j 0 = l.getD j 0 := by
  rw [List.getD_eq_getElem?_getD, List.getElem?_append_left h, List.getD_eq_getElem?_getD]
theorem own_hi (l : List Int) (j : Nat) (h1 : l.length ≤ j) (h2 : j < l.length + 8) : (l ++ List.replicate 8 (-77 : Int)).getD j 0 = -77 := by
  rw [List.getD_eq_getElem?_getD, List.getElem?_append_right h1, List.getElem?_replicate, if_pos (by omega)]
  rfl
theorem page_any (h : Bok B b E vF vW w) (p : Pg) (a : Option Addr) (cap : Nat) (hl : Ins w a p.links.length p.links) (hnone : a = none → cap = 0) (hn : p.links.length ≤ 1000000000) (hx : p.body.length ≤ 1000000000000) (hE : E.length ≤ 1000) :
    Calls Tryz.prog 12 #[ptr b, pga p a cap] w fun e w' => e = .returned (.bool true) ∧ ∃ E' vF' vW', Bok B b E' vF' vW' w' ∧ E'.length = E.length + 2 ∧ Below B w w' ∧ KeepT w w' := by
  have bA := (Below.refl w.heap.size w).alloc (Nat.le_refl _) (.cells (pgc p a cap) 24)
  have hg := heap_alloc_new w (.cells (pgc p a cap) 24)
  have hla := hl.below bA
  have K1 := hide (lent_any a p.links.length cap p.links _ hla hnone (by omega))
  have K2 := hide (fun W g c (i : Ins W (some ⟨g, 0, none⟩) p.links.length p.links) => printPage_any p (some ⟨g, 0, none⟩) c W i (by omega) hx)
  have K3 := hide (fun W (i : Ins W a p.links.length p.links) => rPrintPage_any p a cap W i (by omega) hx)
  have K4 := hide (fun W g c (i : Ins W (some ⟨g, 0, none⟩) p.links.reverse.length p.links.reverse) => printPage_any { p with links := p.links.reverse } (some ⟨g, 0, none⟩) c W i (by show p.links.reverse.length ≤ _; rw [List.length_reverse]; omega) hx)
  have K5 := hide (fun W q c (i : Ins W q p.links.reverse.length p.links.reverse) => rPrintPage_any { p with links := p.links.reverse } q c W i (by show p.links.reverse.length ≤ _; rw [List.length_reverse]; omega) hx)
  have HB := hide bA
  have HI := hide hl
  have HH := hide h
  have HE := hide hE
  have HN := hide hn
  generalize prn p = R1 at *
  generalize prn { p with links := p.links.reverse } = R2 at *
  have HSA := hide (show (w.alloc (.cells (pgc p a cap) 24)).heap.size = w.heap.size + 1 by simp)
  clear hl hla bA h hE hnone
  obtain ⟨k, m, bi, l, x⟩ := p
  obtain ⟨t1, e1⟩ := R1
  obtain ⟨t2, e2⟩ := R2
  unfold pga at *
  unfold pgc at *
  simp only [List.length_reverse] at K1 K2 K3 K4 K5 HB HI HN hg hn hx HSA ⊢
  obtain ⟨x0, x1, x2, x3, x4⟩ := box5 hg (Below.refl _ _) (lt_of_row hg)
  have HG := hide hg
  clear hg
  generalize hWA : w.alloc (.cells #[I k, I m, I bi, .slice a l.length cap, S x] 24) = WA at *
  have HWA := hide hWA
  clear hWA
  go_enter Tryz.func12, Tryz.ntmps12
  go_upto_region 2 with fail
  rw [unhide HWA]
  go_wp2_with fail
  refine (unhide K1).mono ?_
  rintro e w1 ⟨rfl, bl1, b1⟩
  have hg1 := (b1.block _ (lt_of_row (unhide HG))).trans (unhide HG)
  have hgx : (w1.setCell ⟨w.heap.size, 3, none⟩ (.slice (some ⟨WA.heap.size, 0, none⟩) l.length (l.length + 8))).heap[w.heap.size]? = some (.cells #[I k, I m, I bi, .slice (some ⟨WA.heap.size, 0, none⟩) l.length (l.length + 8), S x] 24 (0, 0)) := heap_setCell_same w1 w.heap.size 3 _ 24 _ hg1
  have bw1 : Below w.heap.size w w1 := (unhide HB).trans (b1.mono (unhide HB).size)
  have bw2 : Below w.heap.size w (w1.setCell ⟨w.heap.size, 3, none⟩ (.slice (some ⟨WA.heap.size, 0, none⟩) l.length (l.length + 8))) := bw1.setCell (p := ⟨w.heap.size, 3, none⟩) (Nat.le_refl _) _
  have bl2 : Blk WA.heap.size (l ++ List.replicate 8 (-77)) (w1.setCell ⟨w.heap.size, 3, none⟩ (.slice (some ⟨WA.heap.size, 0, none⟩) l.length (l.length + 8))) := (heap_setCell_other _ _ _ _ (by show _ ≠ w.heap.size; have := unhide HSA; omega)).trans bl1
  have y3 := cell_of_row w1 w.heap.size 3 _ 24 (0, 0) hg1
  have fy3 := frz hg1 3
  have hXl := lt_of_row hg1
  obtain ⟨z0, z1, z2, z3, z4⟩ := box5 hgx (Below.refl _ _) (lt_of_row hgx)
  have HGX := hide hgx
  have HB2 := hide bw2
  have HBL2 := hide bl2
  have hle : (l.length : Int) ≤ (l.length : Int) + 8 := by omega
  clear hg1 hgx bw1 bw2 bl1 bl2 b1 x0 x1 x2 x3 x4
  generalize hgA : WA.heap.size = gA at *
  have HGA := hide hgA
  clear hgA
  generalize hW2 : w1.setCell ⟨w.heap.size, 3, none⟩ (.slice (some ⟨gA, 0, none⟩) l.length (l.length + 8)) = W2 at *
  have HW2 := hide hW2
  clear hW2
  go_upto_region 4 with fail
  rw [unhide HW2]
  clear y3 fy3 HW2 hle
  go_wp2_with fail
  refine (unhide K2 _ gA (l.length + 8) (unhide HBL2).part).mono ?_
  rintro e w3 ⟨rfl, b3⟩
  have hgx3 := (b3.block _ (lt_of_row (unhide HGX))).trans (unhide HGX)
  have HBL3 := hide ((unhide HBL2).keep b3)
  have HB3 := hide ((unhide HB2).trans (b3.mono (unhide HB2).size))
  obtain ⟨y0, y1, y2, y3, y4⟩ := box5 hgx3 (Below.refl _ _) (lt_of_row hgx3)
  have HGX3 := hide hgx3
  clear b3 hgx3 z0 z1 z2 z3 z4 HGX HBL2 HB2 K2
  go_wp2_with fail
  refine (unhide K3 _ ((unhide HI).below (unhide HB3))).mono ?_
  rintro e w4 ⟨rfl, b4⟩
  have HGX4 := hide ((b4.block _ (lt_of_row (unhide HGX3))).trans (unhide HGX3))
  have HBL4 := hide ((unhide HBL3).keep b4)
  have HGL4 := hide (unhide HBL4).lt
  have HB4 := hide ((unhide HB3).trans (b4.mono (unhide HB3).size))
  clear b4 y0 y1 y2 y3 y4 HGX3 HBL3 HB3 K3 hXl
  go_wp2
  go_loopw [11, 12] (fun v i wr => ∃ j : Nat, j ≤ l.length ∧ i = .int .i64 ((l.length : Int) - 1 - (j : Int)) ∧ wr.ownsRow 0 3 1 v j ((l.reverse.take j).map fun z => I z) ∧ (∀ k, v.ownBlock = some k → w4.heap.size ≤ k) ∧ Below w4.heap.size w4 wr) (fun _ i _ => (Go.RowKit.intOf i + 1).toNat)
  case atStart => exact ⟨0, by omega, by simp, owns_nil _ _ _, (fun _ q => nomatch q), Below.refl _ _⟩
  case round =>
    obtain ⟨j, hj, rfl, hv, hv0, hb⟩ := hrel
    obtain ⟨q, c, rfl⟩ := owns_form hv
    by_cases hlt : j < l.length
    · have hlt2 : l.length - 1 - j < l.length := by omega
      obtain ⟨p, o, rfl, hpl, hc0⟩ := (((unhide HI).below (unhide HB4)).below hb).at hlt2
      have HNX := hide (rev_next l j hlt)
      generalize l.getD (l.length - 1 - j) 0 = z at *
      rw [show (l.length : Int) - 1 - (j : Int) = ((l.length - 1 - j : Nat) : Int) by omega]
      have HT := hide (show l.length - 1 - j + 1 = l.length - j by omega)
      generalize hte : l.length - 1 - j = te at *
      have HTE := hide hte
      have hte0 : (te : Int) < (l.length : Int) := by omega
      have hte1 : (0 : Int) ≤ (te : Int) := by omega
      generalize hXS : ((l.reverse.take j).map fun z => I z) = XS at *
      have HXS := hide hXS
      have HV := hide hv
      have HV0 := hide hv0
      have HBJ := hide hb
      have HJ := hide hj
      clear hv hv0 hb hte hXS
      go_wp2_with (at_builtin; refine push_own 22 3 _ 1 8 Tryz.underlying22 info3 rfl (by decide) rfl (.tmp 54) (.tmp 59) rfl (.slice q j c) j XS (by rfl) wr (unhide HV) [I z] rfl (by simp [Value.oneCell']) (by rfl) (by omega) (by omega) ?_)
      intro p9 c9 w9 r9 o9 n9
      have HR9 := hide (show w9.ownsRow 0 3 1 (.slice p9 (j + 1) c9) (j + 1) ((l.reverse.take (j + 1)).map fun z => I z) by rw [unhide HNX, List.map_append, unhide HXS]; exact r9)
      have HN9 := hide (fun k (hk : (Value.slice p9 (j + 1) c9).ownBlock = some k) => (n9 k hk).elim (fun r => unhide HV0 k r) (fun r => Nat.le_trans (unhide HBJ).size r))
      have HB9 := hide (o9.below (unhide HBJ) (unhide HBJ).size (fun k hk => unhide HV0 k hk))
      clear r9 o9 n9
      go_wp2
      go_round
      case measure => simp [Go.RowKit.intOf] <;> omega
      case rel => exact ⟨j + 1, by omega, by have := unhide HTE; simp <;> omega, unhide HR9, unhide HN9, unhide HB9⟩
    · obtain rfl : j = l.length := by omega
      rw [show (l.length : Int) - 1 - (l.length : Int) = -1 by omega]
      rw [List.take_of_length_le (by simp)] at hv
      have HV := hide hv
      have HV0 := hide hv0
      have HBJ := hide hb
      have HB5 := hide ((unhide HB4).trans (hb.mono (unhide HB4).size))
      have HGX5 := hide ((hb.block _ (lt_of_row (unhide HGX4))).trans (unhide HGX4))
      have HBL5 := hide ((unhide HBL4).keep hb)
      clear hv hv0 hb hlt
      go_wp2
      obtain ⟨w5, hw5⟩ : ∃ w5, w5 = wr := ⟨_, rfl⟩
      subst hw5
      go_loopw [13] (fun i wr => ∃ j : Nat, j ≤ l.length + 8 ∧ i = .int .i64 j ∧ Below w5.heap.size w5 wr) (fun i _ => l.length + 8 - (Go.RowKit.intOf i).toNat)
      case atStart => exact ⟨0, by omega, rfl, Below.refl _ _⟩
      case round =>
        obtain ⟨j, hj, rfl, hb⟩ := hrel
        by_cases hlt : j < l.length + 8
        · have hlt' : (j : Int) < (l.length : Int) + 8 := by omega
          have hbl := (unhide HBL5).keep hb
          have hcO := hbl.at j (by simp; omega)
          have hgl := hbl.lt
          have HBB := hide hb
          by_cases hjn : j < l.length
          · have hjn' : (j : Int) < (l.length : Int) := by omega
            obtain ⟨p, o, rfl, hpl, hc0⟩ := (((unhide HI).below (unhide HB5)).below hb).at hjn
            rw [own_lo l j hjn] at hcO
            generalize l.getD j 0 = z at *
            have d1 : decide ((j : Int) < (l.length : Int)) = true := by simp; omega
            have d2 : decide ((l.length : Int) ≤ (j : Int)) = false := by simp; omega
            have d3 : (z != z) = false := by simp
            have HC0 := hide hc0
            have HCO := hide hcO
            have HPL := hide hpl
            clear hb hlt hc0 hcO hpl hbl hgl d1 d2 d3
            go_upto_region 14 with fail
            refine rpaA gA (l.length + 8) l.length cap p o j z (by kernel_rfl) (by kernel_rfl) (by kernel_rfl) _ _ (by show 95 ≤ Array.size _; simp) rfl rfl rfl (fun _ _ W => W.heap = wr.heap ∧ Below w5.heap.size w5 W) ⟨(), rfl, (unhide HBB).drew⟩ (fun _ _ _ _ _ q => q) ?_ ?_ ?_ ?_ ?_ ?_ ?_ ?_
            · intro W
              rw [show (Value.bool true) = .bool (decide ((j : Int) < (l.length : Int))) by simp [hjn]]
              exact s_lss _ _ _ _
            · exact fun W => s_ix22 gA 0 (l.length + 8) (l.length + 8) j (by omega)
            · exact fun _ _ W q _ _ => s_ld Tryz.isAgg3 (by rw [Nat.zero_add]; exact (World.cell?_of_block (by show W.heap[gA]? = wr.heap[gA]?; rw [q.1])).trans (unhide HCO))
            · exact fun W => s_ix22 p o l.length cap j hjn
            · exact fun _ _ W q _ _ => s_ld Tryz.isAgg3 ((World.cell?_of_block (by show W.heap[p]? = wr.heap[p]?; rw [q.1])).trans (unhide HC0))
            · exact fun W => s_neq _ _ z
            · intro W
              rw [show (Value.bool false) = .bool (decide ((l.length : Int) ≤ (j : Int))) by simp [hjn]]
              exact s_geq _ _ _ _
            intro _ L W _ hW
            have HW := hide hW.2
            clear hW
            simp only [Act.put, List.setIfInBounds_toArray, List.set_cons_succ, List.set_cons_zero]
            go_wp2
            go_round
            case measure => simp [Go.RowKit.intOf] <;> omega
            case rel => exact ⟨j + 1, by omega, by simp, unhide HW⟩
          · have hjn' : ¬ (j : Int) < (l.length : Int) := by omega
            rw [own_hi l j (by omega) hlt] at hcO
            have HCO := hide hcO
            clear hb hlt hcO hbl hgl
            go_upto_region 14 with fail
            refine rpaB gA (l.length + 8) l.length cap j a (by kernel_rfl) (by kernel_rfl) (by kernel_rfl) _ _ (by show 95 ≤ Array.size _; simp) rfl rfl rfl (fun _ _ W => W.heap = wr.heap ∧ Below w5.heap.size w5 W) ⟨(), rfl, (unhide HBB).drew⟩ (fun _ _ _ _ _ q => q) ?_ ?_ ?_ ?_ ?_ ?_
            · intro W
              rw [show (Value.bool false) = .bool (decide ((j : Int) < (l.length : Int))) by simp [hjn]]
              exact s_lss _ _ _ _
            · intro W
              rw [show (Value.bool true) = .bool (decide ((l.length : Int) ≤ (j : Int))) by simp; omega]
              exact s_geq _ _ _ _
            · exact fun W => s_ix22 gA 0 (l.length + 8) (l.length + 8) j (by omega)
            · exact fun _ _ W q _ _ => s_ld Tryz.isAgg3 (by rw [Nat.zero_add]; exact (World.cell?_of_block (by show W.heap[gA]? = wr.heap[gA]?; rw [q.1])).trans (unhide HCO))
            · exact fun W => s_neq _ _ (-77)
            intro _ L W _ hW
            have HW := hide hW.2
            clear hW
            simp only [Act.put, List.setIfInBounds_toArray, List.set_cons_succ, List.set_cons_zero]
            go_wp2
            go_round
            case measure => simp [Go.RowKit.intOf] <;> omega
            case rel => exact ⟨j + 1, by omega, by simp, unhide HW⟩
        · have hlt' : ¬ (j : Int) < (l.length : Int) + 8 := by omega
          obtain rfl : j = l.length + 8 := by omega
          have HV6 := hide (owns_below (unhide HV) hb)
          have HI6 := hide (ins_of (show wr.ownsRow 0 3 1 (.slice q l.reverse.length c) l.reverse.length (l.reverse.map fun z => I z) by rw [List.length_reverse]; exact owns_below (unhide HV) hb))
          have hrl : l.reverse.length = l.length := List.length_reverse
          rw [hrl] at HI6
          have hq0 : q = none → c = 0 := fun e => by
            rcases (unhide HV).2 with ⟨e1, _⟩ | ⟨g, cp, cur, e1, _⟩
            · injection e1
            · injection e1 with e2 _ _
              rw [e] at e2
              cases e2
          have HQ0 := hide hq0
          have HBL6 := hide ((unhide HBL5).keep hb)
          have hgx6 := (hb.block _ (lt_of_row (unhide HGX5))).trans (unhide HGX5)
          have HB6 := hide ((unhide HB5).trans (hb.mono (unhide HB5).size))
          obtain ⟨z0, z1, z2, z3, z4⟩ := box5 hgx6 (Below.refl _ _) (lt_of_row hgx6)
          have HGX6 := hide hgx6
          clear hb hgx6 hq0 hrl HBL5 HGX5 HBL4 HGX4
          have HREV := hide (show l.reverse.take (min l.length l.length) ++ (l ++ List.replicate 8 (-77 : Int)).drop (min l.length l.length) = l.reverse ++ List.replicate 8 (-77 : Int) by
            rw [Nat.min_self, List.take_of_length_le (by simp), List.drop_left])
          go_wp2_with (refine copyI rfl (.tmp 96) (.tmp 97) rfl gA l.length (l.length + 8) q l.length c (by rfl) (by rfl) (l ++ List.replicate 8 (-77)) l.reverse (unhide HBL6) (unhide HI6) (unhide HQ0) (by simp) ?_)
          intro w7 bl7 o7
          have bl7' : Blk gA (l.reverse ++ List.replicate 8 (-77)) w7 := by
            have e := unhide HREV
            rw [Nat.min_self] at e
            rw [← e]
            simpa using bl7
          have HBL7 := hide bl7'
          have hGA : gA = w.heap.size + 1 := by have h1 := unhide HGA; have h2 := unhide HSA; omega
          have hgx7 := (o7.block _ (lt_of_row (unhide HGX6)) (by show ¬ w.heap.size = gA; omega)).trans (unhide HGX6)
          have HB7 := hide (o7.below (unhide HB6) (unhide HB6).size (fun k hk => by rw [show k = gA from hk]; omega))
          have HV7 := hide (owns_only (unhide HV6) o7 (fun k hk e => by have h1 := unhide HV0 k hk; have h2 := unhide HGL4; have h3 : k = gA := e; omega))
          have HI7 := hide (ins_of (show w7.ownsRow 0 3 1 (.slice q l.reverse.length c) l.reverse.length (l.reverse.map fun z => I z) by rw [List.length_reverse]; exact unhide HV7))
          rw [List.length_reverse] at HI7
          obtain ⟨x0, x1, x2, x3, x4⟩ := box5 hgx7 (Below.refl _ _) (lt_of_row hgx7)
          have HGX7 := hide hgx7
          have hpt := (unhide HBL7).part
          rw [List.length_reverse] at hpt
          have K4' := hide (unhide K4 w7 gA (l.length + 8) hpt)
          clear bl7 bl7' o7 hgx7 hGA hpt z0 z1 z2 z3 z4 HGX6 HBL6 HB6 HI6 HV6 K4
          go_wp2_with fail
          refine (unhide K4').mono ?_
          rintro e w8 ⟨rfl, b8⟩
          have hgx8 := (b8.block _ (lt_of_row (unhide HGX7))).trans (unhide HGX7)
          have HB8 := hide ((unhide HB7).trans (b8.mono (unhide HB7).size))
          have HI8 := hide ((unhide HI7).below b8)
          obtain ⟨y0, y1, y2, y3, y4⟩ := box5 hgx8 (Below.refl _ _) (lt_of_row hgx8)
          clear b8 hgx8 x0 x1 x2 x3 x4 HGX7 HB7 HI7 HV7 K4'
          go_wp2_with fail
          refine (unhide K5 _ q c (unhide HI8)).mono ?_
          rintro e w9 ⟨rfl, b9⟩
          have HB9 := hide ((unhide HB8).trans (b9.mono (unhide HB8).size))
          clear b9 y0 y1 y2 y3 y4 HB8 HI8 K5
          have KP := hide (parses_any ((unhide HH).below (unhide HB9)) t1 (unhide HE))
          go_wp2_with fail
          refine (unhide KP).mono ?_
          rintro e wa ⟨rfl, E', vF', vW', ha, hel, ba, ka⟩
          have HF := hide (And.intro ha (And.intro hel (And.intro (((unhide HB9).mono (unhide HH).lb.2).trans ba) ((KeepT.below (unhide HB9)).trans ka))))
          clear ha hel ba ka KP
          have s1 : (e1 == e1) = true := by simp
          have s2 : (e2 == e2) = true := by simp
          go_wp2
          go_ret
          exact ⟨by simp, E', vF', vW', unhide HF⟩
end Go.Proofs.YtjopnhhdemfniaaGreatDoor
