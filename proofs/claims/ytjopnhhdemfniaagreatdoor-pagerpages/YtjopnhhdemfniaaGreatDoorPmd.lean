import Derived.Test.YtjopnhhdemfniaaGreatDoorPmb
import Derived.Test.YtjopnhhdemfniaaGreatDoorPmc
import Derived.Test.YtjopnhhdemfniaaGreatDoorGos
import Derived.Test.YtjopnhhdemfniaaGreatDoorPjh
namespace Go.Proofs.YtjopnhhdemfniaaGreatDoor
open Go.RowKit
set_option maxHeartbeats 8000000
set_option maxRecDepth 8000
theorem sliceMid (s : Bs) (k m : Nat) (hk : k ≤ m) (hm : m ≤ s.length) (w : World) : (Instr.slice 9 (S s) (some (.int .i64 (k : Int))) (some (.int .i64 (m : Int))) none).run Tryz.prog w = .ok (S ((s.drop k).take (m - k))) w := by
  have h := s_mid (w := w) s k m hk hm
  simpa [Instr.sliceAt] using h
theorem s_mul (x y : Operand) (a b : Int) (h0 : -9223372036854775808 ≤ a * b) (h1 : a * b ≤ 9223372036854775807) {w : World} : (do eqGuard .mul 3 x y (I a) (I b); binOp .mul 3 (I a) (I b) : Sem Value).run Tryz.prog w = .ok (I (a * b)) w := by
  have q : IntKind.i64.wrap (a * b) = a * b := by rw [IntKind.wrap_i64]; omega
  simp [go_sem, eqGuard, q]
theorem s_add (x y : Operand) (a b : Int) (h0 : -9223372036854775808 ≤ a + b) (h1 : a + b ≤ 9223372036854775807) {w : World} : (do eqGuard .add 3 x y (I a) (I b); binOp .add 3 (I a) (I b) : Sem Value).run Tryz.prog w = .ok (I (a + b)) w := by
  have q : IntKind.i64.wrap (a + b) = a + b := by rw [IntKind.wrap_i64]; omega
  simp [go_sem, eqGuard, q]
/-- The box in which a page is read. -/
def prow (n1 n2 n3 : Int) (x : Bs) (u : Value) : Array Value := #[I n1, I n2, I n3, u, S x]
theorem rParsePage_any (s : Bs) (w : World) : Calls Tryz.prog 63 #[S s] w fun e w' => PgOut (prp s).1 (prp s).2 w e w' := by
  have hg := heap_alloc_new w (.cells #[I 0, I 0, I 0, .slice none 0 0, .string ⟨#[]⟩] 24)
  have HG := hide hg
  have HBA := hide ((Below.refl w.heap.size w).alloc (Nat.le_refl _) (.cells #[I 0, I 0, I 0, .slice none 0 0, .string ⟨#[]⟩] 24))
  have HSA := hide (show (w.alloc (.cells #[I 0, I 0, I 0, .slice none 0 0, .string ⟨#[]⟩] 24)).heap.size = w.heap.size + 1 by simp)
  clear hg
  by_cases hs : s.length = 512
  · have hsi : ((s.length : Nat) : Int) = 512 := by omega
    have HS := hide hs
    have N1 := hide (fun W => number9_any ((s.drop 2).take 1) W (by rw [List.length_take]; omega))
    have N2 := hide (fun W => number9_any ((s.drop 4).take 4) W (by rw [List.length_take]; omega))
    have N3 := hide (fun W => number9_any ((s.drop 8).take 8) W (by rw [List.length_take]; omega))
    have N4 := hide (fun W => number9_any ((s.drop 3).take 1) W (by rw [List.length_take]; omega))
    have N5 := hide (fun W => number9_any ((s.drop 16).take 2) W (by rw [List.length_take]; omega))
    rw [nmb_short ((s.drop 3).take 1) (by rw [List.length_take]; omega)] at N4
    rw [nmb_short ((s.drop 16).take 2) (by rw [List.length_take]; omega)] at N5
    have NJ := hide (fun W j => number9_any ((s.drop (20 + 4 * j)).take 4) W (by rw [List.length_take]; omega))
    have HD := hide (show gD s = ⟨nmb ((s.drop 2).take 1), nmb ((s.drop 4).take 4), nmb ((s.drop 8).take 8), gsl s (gsn s), (s.drop (20 + 4 * gsn s)).take (gbd s)⟩ from rfl)
    have HPP := hide (prp_gD s)
    have HPL := hide (prp_long s hs)
    have hb1 := gsn_le s
    have hb2 := gbd_le s
    rw [show nat ((s.drop 3).take 1) = gsn s from rfl] at N4
    rw [show nat ((s.drop 16).take 2) = gbd s from rfl] at N5
    have S3 : ∀ W, (Instr.slice 9 (S s) (some (.int .i64 3)) (some (.int .i64 4)) none).run Tryz.prog W = .ok (S ((s.drop 3).take 1)) W := fun W => sliceMid s 3 4 (by omega) (by omega) W
    have S16 : ∀ W, (Instr.slice 9 (S s) (some (.int .i64 16)) (some (.int .i64 18)) none).run Tryz.prog W = .ok (S ((s.drop 16).take 2)) W := fun W => sliceMid s 16 18 (by omega) (by omega) W
    clear hs
    generalize prp s = PP at *
    generalize nmb ((s.drop 2).take 1) = n1 at *
    generalize nmb ((s.drop 4).take 4) = n2 at *
    generalize nmb ((s.drop 8).take 8) = n3 at *
    generalize hgn : gsn s = gn at *
    generalize hgb : gbd s = gb at *
    clear hgn hgb
    go_enter Tryz.func63, Tryz.ntmps63
    go_upto_region 4 with fail
    generalize hWA : w.alloc (.cells #[I 0, I 0, I 0, .slice none 0 0, .string ⟨#[]⟩] 24) = WA at *
    clear hWA
    refine rpg4 s n1 n2 n3 (by kernel_rfl) (by kernel_rfl) (by kernel_rfl) _ _ (by show 26 ≤ Array.size _; simp) rfl (Mk1 WA 24 10 11 #[I 0, I 0, I 0, .slice none 0 0, .string ⟨#[]⟩] #[I n1, I n2, I n3, .slice none 0 0, .string ⟨#[]⟩]) ⟨0, Mk1.start _ _ _ _ _ _ _⟩ ?_ ?_ ?_ ?_ ?_ ?_ ?_ ?_ ?_ ?_ ?_
    · intro i hi c L W hW
      simp only [List.mem_cons, List.not_mem_nil, or_false, not_or] at hi
      exact hW.pure hi.2.2.2.1 hi.2.2.2.2
    · exact fun W => s_mid s 2 3 (by omega) (by have := unhide HS; omega)
    · intro c L W hW _ _
      refine (unhide N1 W).mono ?_
      rintro e w' ⟨rfl, hw⟩
      rw [hw]
      exact ⟨c, fun _ _ => rfl, rfl, hW.pure (by decide) (by decide)⟩
    · exact fun W => s_mid s 4 8 (by omega) (by have := unhide HS; omega)
    · intro c L W hW _ _
      refine (unhide N2 W).mono ?_
      rintro e w' ⟨rfl, hw⟩
      rw [hw]
      exact ⟨c, fun _ _ => rfl, rfl, hW.pure (by decide) (by decide)⟩
    · exact fun W => s_mid s 8 16 (by omega) (by have := unhide HS; omega)
    · intro c L W hW _ _
      refine (unhide N3 W).mono ?_
      rintro e w' ⟨rfl, hw⟩
      rw [hw]
      exact ⟨c, fun _ _ => rfl, rfl, hW.pure (by decide) (by decide)⟩
    · intro W
      simp [go_sem, Tryz.zeroValue24]
    · intro c L W hW hL
      refine ⟨W.heap.size, _, fun j hj => ?_, s_al Tryz.zeroValue24, hW.alloc hL (by decide)⟩
      unfold vrpg4
      split <;> first | rfl | (rw [hL] at hj; cases hj)
    · intro c L W hW hL h9 h10
      exact ⟨_, hW.runs h10 hL Tryz.sizeOf24 _ rfl rfl rfl (by simp [Value.oneCell']), hW.fill h10 (by decide)⟩
    intro X L W4 hall hW
    obtain ⟨hc0, hc1⟩ := hW.done (hall 10 (by omega)) (hall 11 (by omega))
    have HB4 := hide hW.bel
    have HX0 := hide hc0
    have HX := hide hc1
    have HY4 := hide ((hW.bel.block _ (lt_of_row (unhide HG))).trans (unhide HG))
    clear hc0 hc1 hW hall
    simp only [Act.put, List.setIfInBounds_toArray, List.set_cons_succ, List.set_cons_zero]
    go_wp2_with fail
    refine (unhide N4 _).mono ?_
    rintro e wa ⟨rfl, hwa⟩
    rw [hwa]
    clear hwa wa
    go_wp2_with fail
    refine (unhide N5 _).mono ?_
    rintro e wa ⟨rfl, hwa⟩
    rw [hwa]
    clear hwa wa S3 S16 N1 N2 N3 N4 N5
    by_cases hgr : 488 < 4 * gn + gb
    · have hgr' : (488 : Int) < 4 * (gn : Int) + (gb : Int) := by omega
      have HR := hide (unhide HPL hgr)
      clear hgr
      go_wp2_with (refine wp_st24 rfl (.tmp 2) (.tmp 37) rfl w.heap.size (by rfl) 0 0 0 none 0 0 [] (by rfl) _ rfl (unhide HY4) ?_)
      refine out2c Tryz.isAgg24 Tryz.sizeOf24 (p := 2) (q := 3) Tryz.results63 rfl (by rfl) (by rfl) (setRow_row (unhide HY4)) rfl ?_
      rw [unhide HR]
      exact PgOut.no w _ ((unhide HBA).trans (belowR ((unhide HB4).mono (by have := unhide HSA; omega)) (Nat.le_refl _) _))
    · have hgr' : ¬ (488 : Int) < 4 * (gn : Int) + (gb : Int) := by omega
      have HGR := hide (show 4 * gn + gb ≤ 488 by omega)
      clear hgr
      go_wp2
      go_loopw [8] (fun i wr => ∃ (j : Nat) (v : Value), j ≤ gn ∧ i = .int .i64 j ∧ wr.heap[X]? = some (.cells (prow n1 n2 n3 [] v) 24 (0, 0)) ∧ wr.ownsRow 0 3 1 v j ((gsl s j).map fun z => I z) ∧ (∀ k, v.ownBlock = some k → WA.heap.size ≤ k) ∧ Below WA.heap.size WA wr) (fun i _ => gn - (Go.RowKit.intOf i).toNat)
      case atStart => exact ⟨0, .slice none 0 0, by omega, rfl, unhide HX, owns_nil _ _ _, (fun _ q => nomatch q), unhide HB4⟩
      case round =>
        obtain ⟨j, v, hj, rfl, hx, hv, hv0, hb⟩ := hrel
        obtain ⟨q, cap, rfl⟩ := owns_form hv
        by_cases hlt : j < gn
        · have hlt' : (j : Int) < (gn : Int) := by omega
          have HXR := hide hx
          have HVR := hide hv
          have HV0 := hide hv0
          have HBR := hide hb
          have HCJ := hide (fun W => unhide NJ W j)
          have HNX := hide (gsl_next s j)
          generalize nmb ((s.drop (20 + 4 * j)).take 4) = z at *
          clear hx hv hv0 hb
          go_upto_region 12 with fail
          refine rpg12 X j cap j q s z (by kernel_rfl) (by kernel_rfl) (by kernel_rfl) _ _ (by show 58 ≤ Array.size _; simp) rfl rfl rfl (Ap1 wr X (prow n1 n2 n3 []) (.slice q j cap) j ((gsl s j).map fun z => I z) z 1 11 12 14) ⟨_, Ap1.start _ _ _ _ _ _ _ _ _ _ _⟩ ?_ ?_ ?_ ?_ ?_ ?_ ?_ ?_ ?_ ?_ ?_ ?_
          · intro i hi c L W hW
            simp only [List.mem_cons, List.not_mem_nil, or_false, not_or] at hi
            exact hW.pure hi.2.1 hi.2.2.1 hi.2.2.2
          · intro c L W hW hL _
            exact s_ld Tryz.isAgg22 (cell_of_row _ _ 3 _ 24 (0, 0) ((hW.old hL (lt_of_row (unhide HXR))).trans (unhide HXR)))
          · exact fun W => s_mul _ _ 4 (j : Int) (by omega) (by omega)
          · exact fun W => s_add _ _ 20 (4 * (j : Int)) (by omega) (by omega)
          · exact fun W => s_mul _ _ 4 (j : Int) (by omega) (by omega)
          · exact fun W => s_add _ _ 24 (4 * (j : Int)) (by omega) (by omega)
          · intro W
            have h := s_mid (w := W) s (20 + 4 * j) (24 + 4 * j) (by omega) (by have := unhide HS; have := unhide HGR; omega)
            rw [show 24 + 4 * j - (20 + 4 * j) = 4 by omega, show ((20 + 4 * j : Nat) : Int) = 20 + 4 * (j : Int) by omega, show ((24 + 4 * j : Nat) : Int) = 24 + 4 * (j : Int) by omega] at h
            exact h
          · intro c L W hW _ _
            refine (unhide HCJ W).mono ?_
            rintro e w' ⟨rfl, hw⟩
            rw [hw]
            exact ⟨c, fun _ _ => rfl, rfl, hW.pure (by decide) (by decide) (by decide)⟩
          · intro c L W hW hL _
            obtain ⟨e1, e2⟩ := hW.build hL (by decide) (by decide)
            refine ⟨⟨wr.heap.size, c.v⟩, _, fun i hi => ?_, ?_, e2⟩
            · unfold vrpg12
              split <;> first | rfl | (rw [hL] at hi; cases hi)
            · rw [e1]
              exact s_bs22 z wr.drew
          · intro T c L W hW hL h1 h11
            obtain ⟨c', W', e1, e2, e3⟩ := hW.app h1 h11 hL (unhide HVR) (unhide HXR) (by omega) T (by decide) (by decide)
            refine ⟨c', W', fun i hi => ?_, e2, e3⟩
            unfold vrpg12
            split <;> first | rfl | (rw [e1]) | (rw [hL] at hi; cases hi)
          · intro c L W hW hL h12 _
            obtain ⟨e1, e2⟩ := hW.store h12 hL (by decide) (by decide) (by decide) rfl (by simp [prow])
            exact ⟨_, e1, e2⟩
          intro c L W hall hW
          obtain ⟨_, _, p, cp, e, o1, o2, o3, o4⟩ := hW.post (hall 12 (by omega))
          rw [hall 14 (by omega), if_pos rfl] at o4
          have HO4 := hide o4
          have HO1 := hide (show W.ownsRow 0 3 1 c.v (j + 1) ((gsl s (j + 1)).map fun z => I z) by rw [unhide HNX, List.map_append]; exact o1)
          have HO3 := hide (fun k (hk : c.v.ownBlock = some k) => (o3 k hk).elim (fun r => unhide HV0 k r) (fun r => Nat.le_trans (unhide HBR).size r))
          have HO2 := hide (o2.below (unhide HBR) (unhide HBR).size (fun k hk => hk.elim (fun r => unhide HV0 k r) (fun r => by rw [r]; exact unhide HX0)))
          clear o1 o2 o3 o4 e hW hall
          simp only [Act.put, List.setIfInBounds_toArray, List.set_cons_succ, List.set_cons_zero]
          go_wp2
          go_round
          case measure => simp [Go.RowKit.intOf]; omega
          case rel => exact ⟨j + 1, c.v, by omega, by simp, unhide HO4, unhide HO1, unhide HO3, unhide HO2⟩
        · have hlt' : ¬ (j : Int) < (gn : Int) := by omega
          obtain rfl : j = gn := by omega
          have HV := hide hv
          have HV0 := hide hv0
          have HB := hide hb
          have hgl : (gsl s j).length = j := gsl_len s j
          have hbd : ((s.drop (20 + 4 * j)).take gb).length = gb := by rw [List.length_take, List.length_drop, unhide HS]; have := unhide HGR; omega
          have S13 : ∀ W, (Instr.slice 9 (S s) (some (.int .i64 (20 + 4 * (j : Int)))) (some (.int .i64 (20 + 4 * (j : Int) + (gb : Int)))) none).run Tryz.prog W = .ok (S ((s.drop (20 + 4 * j)).take gb)) W := fun W => by
            have h := sliceMid s (20 + 4 * j) (20 + 4 * j + gb) (by omega) (by have := unhide HS; have := unhide HGR; omega) W
            rw [show 20 + 4 * j + gb - (20 + 4 * j) = gb by omega, show ((20 + 4 * j : Nat) : Int) = 20 + 4 * (j : Int) by omega, show ((20 + 4 * j + gb : Nat) : Int) = 20 + 4 * (j : Int) + (gb : Int) by omega] at h
            exact h
          have hxs := heap_setCell_same wr X 4 _ 24 (S ((s.drop (20 + 4 * j)).take gb)) hx
          have hxr : (wr.setCell ⟨X, 4, none⟩ (S ((s.drop (20 + 4 * j)).take gb))).heap[X]? = some (.cells #[I n1, I n2, I n3, .slice q j cap, S ((s.drop (20 + 4 * j)).take gb)] 24 (0, 0)) := hxs
          have o5 := Only.setCell wr ⟨X, 4, none⟩ (S ((s.drop (20 + 4 * j)).take gb))
          have hneX : ∀ k, (Value.slice q j cap).ownBlock = some k → ¬ k = X := fun k hk e => by
            obtain ⟨cs, r⟩ := owns_lt hv k hk
            rw [e, hx] at r
            cases r
          have hv5 := owns_only hv o5 hneX
          have hb5 : Below WA.heap.size WA (wr.setCell ⟨X, 4, none⟩ (S ((s.drop (20 + 4 * j)).take gb))) := o5.below hb hb.size (fun k hk => by rw [show k = X from hk]; exact unhide HX0)
          have hi5 : ∃ p' cap', Value.slice q j cap = .slice p' (gsl s j).length cap' ∧ Ins (wr.setCell ⟨X, 4, none⟩ (S ((s.drop (20 + 4 * j)).take gb))) p' (gsl s j).length (gsl s j) ∧ (∀ g o, p' = some ⟨g, o, none⟩ → (Value.slice q j cap).ownBlock = some g) := Ins.of (by rw [hgl]; exact hv5)
          obtain ⟨p', cap', e5, i5, _⟩ := hi5
          rw [hgl] at e5 i5
          cases e5
          have C14 := hide (rPrintPage_any (gD s) q cap (wr.setCell ⟨X, 4, none⟩ (S ((s.drop (20 + 4 * j)).take gb))) (by rw [unhide HD]; show Ins _ q (gsl s j).length (gsl s j); rw [hgl]; exact i5) (by rw [unhide HD]; show (gsl s j).length ≤ _; rw [hgl]; have := unhide HGR; omega) (by rw [unhide HD]; show ((s.drop (20 + 4 * j)).take gb).length ≤ _; rw [hbd]; have := unhide HGR; omega))
          have HPG := hide (show pga (gD s) q cap = .agg #[I n1, I n2, I n3, .slice q j cap, S ((s.drop (20 + 4 * j)).take gb)] by rw [unhide HD]; unfold pga; simp only; rw [hgl])
          rw [unhide HPG] at C14
          obtain ⟨c0, c1, c2, c3, c4⟩ := box5 hx (Below.refl _ _) (lt_of_row hx)
          have f4 := frz hx 4
          obtain ⟨d0, d1, d2, d3, d4⟩ := box5 hxr (Below.refl _ _) (lt_of_row hxr)
          have HXR := hide hxr
          have HV5 := hide hv5
          have HB5 := hide hb5
          have HGL := hide hgl
          clear hx hv hv0 hb hgl hbd hxs hxr o5 hneX hv5 hb5 i5
          generalize (s.drop (20 + 4 * j)).take gb = bdy at *
          generalize hW5 : wr.setCell ⟨X, 4, none⟩ (S bdy) = W5 at *
          have HW5 := hide hW5
          clear hW5
          go_upto_region 14 with fail
          rw [show wr.setCell ⟨X, 4, none⟩ (.string ⟨bdy.toArray⟩) = W5 from unhide HW5]
          clear c0 c1 c2 c3 c4 f4 S13 HW5
          generalize prn (gD s) = PN at *
          obtain ⟨tx, er⟩ := PN
          simp only at C14 HPP
          go_wp2_with fail
          refine (unhide C14).mono ?_
          rintro e w6 ⟨rfl, b6⟩
          have HX6 := hide ((b6.block _ (lt_of_row (unhide HXR))).trans (unhide HXR))
          have HV6 := hide (owns_below (unhide HV5) b6)
          have hb6 := (unhide HB5).trans (b6.mono (unhide HB5).size)
          have HB6 := hide hb6
          have HY6 := hide ((hb6.block _ (lt_of_row (unhide HG))).trans (unhide HG))
          obtain ⟨g0, g1, g2, g3, g4⟩ := box5 (unhide HX6) (Below.refl _ _) (lt_of_row (unhide HX6))
          clear b6 hb6 d0 d1 d2 d3 d4 C14 HXR HV5 HB5
          by_cases hE : er = 0
          · subst hE
            by_cases hT : tx = s
            · subst hT
              have HR := hide (show PP = (gD tx, 0) by rw [unhide HPP, if_pos ⟨rfl, rfl⟩])
              have nS : (tx != tx) = false := by simp
              go_wp2_with (refine wp_st24 rfl (.tmp 2) (.tmp 83) rfl w.heap.size (by rfl) n1 n2 n3 q j cap bdy (by rfl) _ rfl (unhide HY6) ?_)
              refine out2c Tryz.isAgg24 Tryz.sizeOf24 (p := 2) (q := 3) Tryz.results63 rfl (by rfl) (by rfl) (setRow_row (unhide HY6)) rfl ?_
              rw [unhide HR]
              have hlk : (gD tx).links = gsl tx j := by rw [unhide HD]
              have o7 := setRow_Only w6 w.heap.size #[I n1, I n2, I n3, .slice q j cap, S bdy]
              refine ⟨q, cap, by rw [unhide HPG]; rfl, ?_, ?_, ?_⟩
              · rw [hlk, unhide HGL]
                refine owns_only (unhide HV6) o7 (fun k hk e => ?_)
                have := unhide HV0 k hk
                have := unhide HSA
                omega
              · rw [hlk, unhide HGL]
                intro k hk
                have := unhide HV0 k hk
                have := unhide HSA
                omega
              · exact (unhide HBA).trans (belowR ((unhide HB6).mono (by have := unhide HSA; omega)) (Nat.le_refl _) _)
            · have HR := hide (show PP = (noPg, 94) by rw [unhide HPP, if_neg (fun q => hT q.2)])
              have nS : (tx == s) = false := by rw [beq_eq_false_iff_ne]; exact hT
              go_wp2_with (refine wp_st24 rfl (.tmp 2) (.tmp 81) rfl w.heap.size (by rfl) 0 0 0 none 0 0 [] (by rfl) _ rfl (unhide HY6) ?_)
              refine out2c Tryz.isAgg24 Tryz.sizeOf24 (p := 2) (q := 3) Tryz.results63 rfl (by rfl) (by rfl) (setRow_row (unhide HY6)) rfl ?_
              rw [unhide HR]
              exact PgOut.no w _ ((unhide HBA).trans (belowR ((unhide HB6).mono (by have := unhide HSA; omega)) (Nat.le_refl _) _))
          · have HR := hide (show PP = (noPg, 94) by rw [unhide HPP, if_neg (fun q => hE q.1)])
            have nE : (er != 0) = true := by simpa using hE
            go_wp2_with (refine wp_st24 rfl (.tmp 2) (.tmp 81) rfl w.heap.size (by rfl) 0 0 0 none 0 0 [] (by rfl) _ rfl (unhide HY6) ?_)
            refine out2c Tryz.isAgg24 Tryz.sizeOf24 (p := 2) (q := 3) Tryz.results63 rfl (by rfl) (by rfl) (setRow_row (unhide HY6)) rfl ?_
            rw [unhide HR]
            exact PgOut.no w _ ((unhide HBA).trans (belowR ((unhide HB6).mono (by have := unhide HSA; omega)) (Nat.le_refl _) _))
  · have hsi : ¬ ((s.length : Nat) : Int) = 512 := by omega
    have hsn : ((s.length : Int) != 512) = true := by simpa using hsi
    have HPP := hide (prp_short s hs)
    clear hs hsi
    generalize prp s = PR at *
    go_enter Tryz.func63, Tryz.ntmps63
    go_wp2_with (refine wp_st24 rfl (.tmp 2) (.tmp 14) rfl w.heap.size (by rfl) 0 0 0 none 0 0 [] (by rfl) _ rfl (unhide HG) ?_)
    refine out2c Tryz.isAgg24 Tryz.sizeOf24 (p := 2) (q := 3) Tryz.results63 rfl (by rfl) (by rfl) (setRow_row (unhide HG)) rfl ?_
    rw [unhide HPP]
    exact PgOut.no w _ (belowR (unhide HBA) (Nat.le_refl _) _)
end Go.Proofs.YtjopnhhdemfniaaGreatDoor
