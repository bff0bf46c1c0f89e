import Derived.Test.YtllialbdofklgaaGreatDoorNfj
import Derived.Test.YtllialbdofklgaaGreatDoorZnfi
import Derived.Test.YtllialbdofklgaaGreatDoorZnds
namespace Go.Proofs.YtllialbdofklgaaGreatDoor
open Go.RowKit
set_option maxHeartbeats 16000000
set_option maxRecDepth 8000
/-- A node that is made: its box T. -/
structure Mb (w0 : World) (T : Nat) (n : Nd) (vK vV vI : Value) (w : World) : Prop where
  blk : w.heap[T]? = some (.cells #[.bool n.leaf, vK, vV, vI] 25 (0, 0))
  nr : NR n vK vV vI w
  bel : Below w0.heap.size w0 w
  hT : w0.heap.size ≤ T
theorem Mb.below {w0 w w' : World} {T : Nat} {n : Nd} {vK vV vI : Value} (h : Mb w0 T n vK vV vI w) (q : Below w.heap.size w w') : Mb w0 T n vK vV vI w' :=
  ⟨(q.block T (lt_of_row h.blk)).trans h.blk, h.nr.below q, h.bel.trans (q.mono h.bel.size), h.hT⟩
theorem Mb.put {w0 w w1 : World} {T : Nat} {n n' : Nd} {vK vV vI a b c : Value} (h : Mb w0 T n vK vV vI w) (q : Below w.heap.size w w1) (hn : NR n' a b c w1) (hl : n'.leaf = n.leaf) : Mb w0 T n' a b c ((((w1.setCell ⟨T, 0, none⟩ (.bool n.leaf)).setCell ⟨T, 1, none⟩ a).setCell ⟨T, 2, none⟩ b).setCell ⟨T, 3, none⟩ c) := by
  have h1 := h.below q
  have o := set4_only w1 T (.bool n.leaf) a b c
  refine ⟨by rw [hl]; exact set4 h1.blk rfl _ _ _ _, ⟨owns_only hn.rK o (fun i hi e => not_T h1.blk hn.rK (by decide) i hi e), owns_only hn.rV o (fun i hi e => not_T h1.blk hn.rV (by decide) i hi e), owns_only hn.rI o (fun i hi e => not_T h1.blk hn.rI (by decide) i hi e), hn.nl⟩, o.below h1.bel h1.bel.size (fun k e => by rw [e]; exact h.hT), h.hT⟩
theorem wth_leaf (n : Nd) (k v : Bs) (z : Int) (most : Nat) : (wth n k v z most).leaf = n.leaf := by
  unfold wth
  split
  · rfl
  · cases n.leaf <;> rfl
theorem wth_keys (n : Nd) (k v : Bs) (z : Int) (most : Nat) (h : lsz n + mor n.leaf (ky k) (v.take 200) ≤ most) (h0 : n.keys = []) : (wth n k v z most).keys ≠ [] := by
  unfold wth
  rw [if_neg (by rw [not_or]; exact ⟨by unfold isat; rw [h0]; simp, by omega⟩)]
  split <;> simp
theorem mb_two {W1 W2 : World} {T : Nat} (ht : W2.heap[T]? = some (.cells #[.bool false, .slice none 0 0, .slice none 0 0, .slice none 0 0] 25 (0, 0))) (hb : Below W1.heap.size W1 W2) (hT : W1.heap.size ≤ T) : Mb W1 T ⟨false, [], [], [2]⟩ (.slice none 0 0) (.slice none 0 0) (.slice (some ⟨W2.heap.size, 0, none⟩) 1 1) ((W2.setCell ⟨T, 3, none⟩ (.slice (some ⟨W2.heap.size, 0, none⟩) 1 1)).alloc (.cells #[I 2] 3)) := by
  have h3 := heap_setCell_same W2 T 3 _ 25 (.slice (some ⟨W2.heap.size, 0, none⟩) 1 1) ht
  have o3 := Only.setCell W2 ⟨T, 3, none⟩ (.slice (some ⟨W2.heap.size, 0, none⟩) 1 1)
  have b3 := o3.below hb hb.size (fun k e => by rw [e]; exact hT)
  have hs : (W2.setCell ⟨T, 3, none⟩ (.slice (some ⟨W2.heap.size, 0, none⟩) 1 1)).heap.size = W2.heap.size := by simp [World.setCell]
  have hn := heap_alloc_new (W2.setCell ⟨T, 3, none⟩ (.slice (some ⟨W2.heap.size, 0, none⟩) 1 1)) (.cells #[I 2] 3)
  rw [hs] at hn
  exact ⟨(alloc_old _ _ (lt_of_row h3)).trans h3, ⟨owns_nil _ _ _, owns_nil _ _ _, ⟨rfl, .inr ⟨W2.heap.size, 1, #[I 2], rfl, Nat.zero_le _, hn, Nat.le_refl _, by unfold maxLen; omega, rfl, rfl⟩⟩, fun _ => ⟨rfl, rfl⟩⟩, b3.alloc b3.size _, hT⟩
/-- with, as a call whose answer comes. -/
theorem with_val (n : Nd) (vK vV vI : Value) (k v : Bs) (z : Int) (w : World) (lf : Bool) (hM : Mk lf 480 n) (h : NR n vK vV vI w) (hz : -9223372036854775808 ≤ z ∧ z ≤ 9223372036854775807) :
    Calls Tryz.prog 58 #[.agg #[.bool lf, vK, vV, vI], .agg #[S k, S v, I z], I 480] w fun e w' => ∃ u, e = .returned u ∧ ∃ (n' : Nd) (p1 p2 p3 : Option Addr) (c1 c2 c3 : Nat), u = .agg #[.bool lf, .slice p1 n'.keys.length c1, .slice p2 n'.vals.length c2, .slice p3 n'.kids.length c3] ∧ Mk lf 480 n' ∧ NR n' (.slice p1 n'.keys.length c1) (.slice p2 n'.vals.length c2) (.slice p3 n'.kids.length c3) w' ∧ Below w.heap.size w w' ∧ (n.keys = [] → lsz n + mor lf (ky k) (v.take 200) ≤ 480 → n'.keys ≠ []) := by
  have hs := hM.sz
  have q := with_any n vK vV vI k v z 480 w h (by omega) (by omega) hz (fun e => (hM.vl (by rw [← hM.leaf]; exact e)).1) (fun e => by
    obtain ⟨a, b, _⟩ := hM.il (by rw [← hM.leaf]; exact e)
    exact ⟨fun q => by rw [q] at b; simp at b, a⟩)
  rw [hM.leaf] at q
  refine q.mono ?_
  rintro e w' ⟨r, hr, vK', vV', vI', rfl, hN, hb⟩
  obtain ⟨p1, p2, p3, c1, c2, c3, rfl, rfl, rfl, -⟩ := hN.na
  refine ⟨_, rfl, _, p1, p2, p3, c1, c2, c3, by rw [hM.leaf], hM.with k v r hr, hN, hb, fun h0 h1 => wth_keys n k v _ 480 (by rw [hM.leaf]; exact h1) h0⟩
theorem made_any (lf : Bool) (a : Option Addr) (m cp : Nat) (l : List Ce) (w : World) (hc : Ces w a m l) (hm : m ≤ 4294967296) :
    Calls Tryz.prog 32 #[.bool lf, .slice a m cp, I 0, I 480] w fun e w' => ∃ n vK vV vI, Mk lf 480 n ∧ n.keys ≠ [] ∧ e = .returned (.agg #[.bool lf, vK, vV, vI]) ∧ NR n vK vV vI w' ∧ Below w.heap.size w w' := by
  have hA1 := (Below.refl w.heap.size w).alloc (Nat.le_refl _) (.cells #[.bool false, .slice none 0 0, .slice none 0 0, .slice none 0 0] 25)
  have g1 := heap_alloc_new w (.cells #[.bool false, .slice none 0 0, .slice none 0 0, .slice none 0 0] 25)
  have s1 := size_alloc w (.cells #[.bool false, .slice none 0 0, .slice none 0 0, .slice none 0 0] 25)
  generalize hW1 : w.alloc (.cells #[.bool false, .slice none 0 0, .slice none 0 0, .slice none 0 0] 25) = W1 at hA1 g1 s1
  have hq := heap_alloc_new W1 (.cells #[.bool false, .slice none 0 0, .slice none 0 0, .slice none 0 0] 25)
  have hb3 := (Below.refl W1.heap.size W1).alloc (Nat.le_refl _) (.cells #[.bool false, .slice none 0 0, .slice none 0 0, .slice none 0 0] 25)
  have ht := setRow_heap _ _ _ #[.bool lf, .slice none 0 0, .slice none 0 0, .slice none 0 0] 25 _ hq
  have hb4 := (setRow_only (W1.alloc (.cells #[.bool false, .slice none 0 0, .slice none 0 0, .slice none 0 0] 25)) W1.heap.size #[.bool lf, .slice none 0 0, .slice none 0 0, .slice none 0 0]).below hb3 hb3.size (fun k e => by omega)
  generalize hW2 : (W1.alloc (.cells #[.bool false, .slice none 0 0, .slice none 0 0, .slice none 0 0] 25)).setRow W1.heap.size #[.bool lf, .slice none 0 0, .slice none 0 0, .slice none 0 0] = W2 at ht hb4
  have HQ := hide hq
  have HW2 := hide hW2
  have HT := hide ht
  have HB4 := hide hb4
  have HA1 := hide hA1
  have HG1 := hide g1
  have HS1 := hide s1
  have hlW : W1.heap.size < W2.heap.size := lt_of_row ht
  obtain ⟨c0, c1, c2, c3⟩ := box4 ht (Below.refl _ _) hlW
  have f3 := frz ht 3
  have hml := hc.len
  have HML := hide hml
  have HC := hide (fun W (q : Below w.heap.size w W) => hc.below q)
  clear hq hb3 ht hb4 hW2 hA1 g1 s1 hc hml
  go_enter Tryz.func32, Tryz.ntmps32
  go_upto_if 15 with (first | (refine wp_st25 rfl (.tmp 9) (.tmp 13) rfl W1.heap.size (by rfl) lf none none none 0 0 0 0 0 0 (by rfl) _ rfl (unhide HQ) ?_; rw [unhide HW2]) | fail)
  clear hW1 HQ HW2
  go_cut [] from 16 to 17 (fun wx => ∃ n vK vV vI, Mk lf 480 n ∧ Mb W1 W1.heap.size n vK vV vI wx)
  case first =>
    cases lf
    · go_wp2
      go_meet
      exact ⟨⟨false, [], [], [2]⟩, .slice none 0 0, .slice none 0 0, .slice (some ⟨W2.heap.size, 0, none⟩) 1 1, Mk.first 480 (by omega) false, mb_two (unhide HT) (unhide HB4) (Nat.le_refl _)⟩
    · go_wp2
      go_meet
      exact ⟨⟨true, [], [], []⟩, .slice none 0 0, .slice none 0 0, .slice none 0 0, Mk.first 480 (by omega) true, ⟨unhide HT, ⟨owns_nil _ _ _, owns_nil _ _ _, owns_nil _ _ _, fun _ => ⟨rfl, rfl⟩⟩, unhide HB4, Nat.le_refl _⟩⟩
  case rest =>
    clear HT HB4 c0 c1 c2 c3 f3 hlW
    obtain ⟨n0, vK0, vV0, vI0, hM0, hB0⟩ := hcut
    have HM0 := hide (And.intro hM0 hB0)
    clear hM0 hB0
    generalize hT : W1.heap.size = T at *
    have HTE := hide hT
    clear hT
    go_wp2
    go_loopw [10] (fun i wr => ∃ k : Nat, k ≤ m ∧ i = .int .i64 k ∧ ∃ n vK vV vI, Mk lf 480 n ∧ Mb W1 T n vK vV vI wr) (fun i _ => m - (Go.RowKit.intOf i).toNat)
    case atStart => exact ⟨0, by omega, rfl, n0, vK0, vV0, vI0, (unhide HM0).1, (unhide HM0).2⟩
    case round =>
      clear HM0
      obtain ⟨k, hk, rfl, n, vK, vV, vI, hM, hB⟩ := hrel
      have hbw : Below w.heap.size w wr := (unhide HA1).trans (hB.bel.mono (unhide HA1).size)
      by_cases hlt : k < m
      · have hlt' : (k : Int) < (m : Int) := by omega
        have hCe := unhide HC _ hbw
        have hnum := hCe.num k hlt
        obtain ⟨p, o, rfl, hcc⟩ := hCe.cel (by omega)
        obtain ⟨h1, h2, h3⟩ := hcc k hlt
        have hpl := blk_lt h1
        generalize hck : (l.getD k ce0).k = ck at *
        generalize hcv : (l.getD k ce0).v = cv at *
        generalize hcz : (l.getD k ce0).z = cz at *
        clear hck hcv hcz hCe hcc
        have hBd := hB.below (Below.refl _ _).drew
        obtain ⟨ka, va, ia, kc, vc, ic, rfl, rfl, rfl, -⟩ := hB.nr.na
        have HW := hide (with_val n _ _ _ ck cv cz wr.drew lf hM hBd.nr hnum)
        obtain ⟨c0, c1, c2, c3⟩ := box4 hBd.blk (Below.refl _ _) (lt_of_row hBd.blk)
        rw [hM.leaf] at c0
        have hTl := lt_of_row hBd.blk
        have HBD := hide hBd
        have HLF := hide hM.leaf
        clear hB hBd hM hbw
        generalize hkl : n.keys.length = kl at *
        generalize hvl : n.vals.length = vl at *
        generalize hil : n.kids.length = il at *
        clear hkl hvl hil
        go_wp2
        go_region_law (refine step_callsE (f := 58) Tryz.func58 (by kernel_rfl) rfl rfl _ _ rfl #[.agg #[.bool lf, .slice ka kl kc, .slice va vl vc, .slice ia il ic], .agg #[S ck, S cv, I cz], I 480] (by first | (simp [Act.eval]; done) | (simp [Act.eval, Act.put]; done)) _ (unhide HW) ?_; rintro u w5 ⟨n', p1, p2, p3, c1', c2', c3', rfl, hM', hN', hb', -⟩; have hblk := (unhide HBD).below hb' |>.blk; obtain ⟨x0, x1, x2, x3⟩ := box4 hblk (Below.refl _ _) (lt_of_row hblk); have y0 := frz hblk 0; have y1 := frz hblk 1; have y2 := frz hblk 2; have y3 := frz hblk 3; have yl := lt_of_row hblk; have HP := hide ((unhide HBD).put hb' hN' (by rw [hM'.leaf, unhide HLF])); rw [unhide HLF] at HP; have HM' := hide hM'; clear hM' hN' hb' hblk)
        all_goals (
          go_wp2
          go_roundw
          case rel => exact ⟨k + 1, by omega, by go_num, n', _, _, _, unhide HM', unhide HP⟩
          case measure => simp [Go.RowKit.intOf]; omega)
      · have hlt' : ¬ (k : Int) < (m : Int) := by omega
        have HM0 := hide (And.intro hM hB)
        clear hM hB hbw HC HML
        go_wp2
        go_loopw [11] (fun i wx => ∃ j : Nat, j ≤ 1 ∧ i = .int .i64 j ∧ ∃ n vK vV vI, Mk lf 480 n ∧ Mb W1 T n vK vV vI wx ∧ (j = 1 → n.keys ≠ [])) (fun i _ => 2 - (Go.RowKit.intOf i).toNat)
        case atStart => exact ⟨0, by omega, rfl, n, vK, vV, vI, (unhide HM0).1, (unhide HM0).2, fun q => by cases q⟩
        case round =>
          clear HM0
          obtain ⟨j, hj, rfl, n, vK, vV, vI, hM, hB, hne⟩ := hrel
          obtain ⟨ka, va, ia, kc, vc, ic, rfl, rfl, rfl, hna⟩ := hB.nr.na
          have hZ := lsize_any n ka va ia kc vc ic _ hna (lsz_nb (by have := hM.sz; omega))
          unfold nda at hZ
          rw [hM.leaf] at hZ
          have HZ := hide hZ
          obtain ⟨c0, c1, c2, c3⟩ := box4 hB.blk (Below.refl _ _) (lt_of_row hB.blk)
          rw [hM.leaf] at c0
          have hTl := lt_of_row hB.blk
          have HB := hide hB
          have HM := hide hM
          have HNE := hide hne
          have hls := hM.sz
          have HLS := hide (show lsz n = lsz n from rfl)
          clear hB hM hne hna hZ
          generalize hlz : lsz n = lz at *
          have HLZ := hide hlz
          clear hlz
          generalize hkl : n.keys.length = kl at *
          generalize hvl : n.vals.length = vl at *
          generalize hil : n.kids.length = il at *
          have HKL := hide hkl
          clear hkl hvl hil
          have hlz0 : decide ((lz : Int) < 0) = false := by rw [decide_eq_false_iff_not]; omega
          go_wp2_with fail
          refine (unhide HZ).mono ?_
          rintro e w5 ⟨rfl, b5⟩
          have hB5 := (unhide HB).below b5
          clear c0 c1 c2 c3 hTl HZ b5
          obtain ⟨c0, c1, c2, c3⟩ := box4 hB5.blk (Below.refl _ _) (lt_of_row hB5.blk)
          rw [(unhide HM).leaf] at c0
          have hTl := lt_of_row hB5.blk
          have HB5 := hide hB5
          clear hB5 HB
          by_cases hk0 : kl = 0
          · subst hk0
            have hkn : n.keys = [] := List.eq_nil_of_length_eq_zero (unhide HKL)
            obtain rfl : j = 0 := by
              rcases Nat.lt_or_ge j 1 with q | q
              · omega
              · exact absurd hkn (unhide HNE (by omega))
            have HKN := hide hkn
            have hsm : lz ≤ 4 := by
              have hM := unhide HM
              have h1 := unhide HLZ
              unfold lsz at h1
              rw [hkn] at h1
              have t0 : tot [] = 0 := rfl
              cases lf
              · obtain ⟨a1, a2, -⟩ := hM.il rfl
                rw [a1, a2, hkn] at h1
                simp only [List.length_nil, t0] at h1
                omega
              · obtain ⟨a1, a2, -⟩ := hM.vl rfl
                have a3 : n.vals = [] := List.eq_nil_of_length_eq_zero (by rw [a1, hkn]; rfl)
                rw [a2, a3] at h1
                simp only [List.length_nil, t0] at h1
                omega
            have HMO := hide (show lsz n + mor lf (ky [109, 111, 114, 101, 0]) (List.take 200 [116, 119, 101, 110, 116, 121, 32, 98, 121, 116, 101, 115, 32, 111, 114, 32, 115, 111, 32, 46, 46]) ≤ 480 by rw [unhide HLZ]; cases lf <;> simp [mor, ky] <;> omega)
            have HW := hide (fun W (q : Below w5.heap.size w5 W) => with_val n (.slice ka 0 kc) (.slice va vl vc) (.slice ia il ic) [109, 111, 114, 101, 0] [116, 119, 101, 110, 116, 121, 32, 98, 121, 116, 101, 115, 32, 111, 114, 32, 115, 111, 32, 46, 46] 0 W lf (unhide HM) ((unhide HB5).nr.below q) (by omega))
            clear hkn
            have hcv : (convert 79 9 (.slice (some ⟨w5.heap.size, 0, none⟩) 1 1)).run Tryz.prog (w5.alloc (.cells #[.int .u8 0] 5)) = .ok (S [0]) (w5.alloc (.cells #[.int .u8 0] 5)) := run_text _ w5.heap.size 0 1 1 [0] rfl (fun j hj => by
              obtain rfl : j = 0 := by omega
              rw [cell_of_row _ _ (0 + 0) _ 5 (0, 0) (heap_alloc_new w5 (.cells #[.int .u8 0] 5))]
              rfl)
            have hca : (⟨#[109, 111, 114, 101]⟩ : ByteArray) ++ ⟨[0].toArray⟩ = ⟨[109, 111, 114, 101, 0].toArray⟩ := by decide
            go_wp2_with fail
            refine (unhide HW _ (((Below.refl _ _).alloc (Nat.le_refl _) _))).mono ?_
            rintro e w6 ⟨u, rfl, n', p1, p2, p3, c1', c2', c3', rfl, hM', hN', hb', hke⟩
            have hb6 := ((Below.refl w5.heap.size w5).alloc (Nat.le_refl _) (.cells #[.int .u8 0] 5)).trans (hb'.mono (by simp))
            have hblk := ((unhide HB5).below hb6).blk
            obtain ⟨x0, x1, x2, x3⟩ := box4 hblk (Below.refl _ _) (lt_of_row hblk)
            have y0 := frz hblk 0
            have y1 := frz hblk 1
            have y2 := frz hblk 2
            have y3 := frz hblk 3
            have yl := lt_of_row hblk
            have HP := hide ((unhide HB5).put hb6 hN' (by rw [hM'.leaf, (unhide HM).leaf]))
            rw [(unhide HM).leaf] at HP
            have HM' := hide hM'
            have HKE := hide (hke (unhide HKN) (unhide HMO))
            clear hM' hN' hb' hblk hb6 hke hcv hca c0 c1 c2 c3 hTl
            go_wp2
            go_roundw
            case rel => exact ⟨1, by omega, by go_num, n', _, _, _, unhide HM', unhide HP, fun _ => unhide HKE⟩
            case measure => simp [Go.RowKit.intOf]
          · have hk0' : ((kl : Int) == 0) = false := by simp; omega
            have hbe := (unhide HB5).bel
            have hzw : w.heap.size < W1.heap.size := by have := unhide HS1; have := unhide HTE; omega
            have g5 := (hbe.block _ hzw).trans (unhide HG1)
            have G5 := hide g5
            have hzl := lt_of_row g5
            clear g5 hbe
            go_wp2_with (refine wp_st25 rfl (.tmp 8) (.tmp 52) rfl w.heap.size (by rfl) lf ka va ia kl kc vl vc il ic (by rfl) _ rfl (unhide G5) ?_)
            have hr := setRow_heap _ _ _ #[.bool lf, .slice ka kl kc, .slice va vl vc, .slice ia il ic] 25 _ (unhide G5)
            have oF := setRow_only w5 w.heap.size #[.bool lf, .slice ka kl kc, .slice va vl vc, .slice ia il ic]
            have hbb := (unhide HA1).trans ((unhide HB5).bel.mono (unhide HA1).size)
            have hN := (unhide HB5).nr
            refine outN1 (p := 8) rfl (by rfl) (by rfl) hr ⟨n, _, _, _, unhide HM, fun q => hk0 (by rw [← unhide HKL, q]; rfl), rfl, ⟨owns_only hN.rK oF (fun i hi e => not_T (unhide G5) hN.rK (by decide) i hi e), owns_only hN.rV oF (fun i hi e => not_T (unhide G5) hN.rV (by decide) i hi e), owns_only hN.rI oF (fun i hi e => not_T (unhide G5) hN.rI (by decide) i hi e), hN.nl⟩, oF.below hbb hbb.size (fun i e => by omega)⟩
end Go.Proofs.YtllialbdofklgaaGreatDoor
namespace Go.Proofs.YtllialbdofklgaaGreatDoor
open Go.RowKit
set_option maxHeartbeats 16000000
set_option maxRecDepth 8000
/-! ### A great node of raw cells -/
def mre (t : Nat) : Bs := [109, 111, 114, 101, UInt8.ofNat t]
theorem mre_ky (t : Nat) : ky (mre t) = mre t := by simp [ky, mre]
theorem mre_inj {s t : Nat} (hs : s < 256) (ht : t < 256) (h : mre s = mre t) : s = t := by
  unfold mre at h
  have h2 : UInt8.ofNat s = UInt8.ofNat t := by simpa using h
  have h3 := congrArg UInt8.toNat h2
  simp only [UInt8.toNat_ofNat'] at h3
  omega
theorem nodup_len : ∀ (u l : List Bs), u.Nodup → (∀ x ∈ u, x ∈ l) → u.length ≤ l.length
  | [], _, _, _ => Nat.zero_le _
  | a :: u, l, hn, hs => by
    have ha := hs a (by simp)
    have := nodup_len u (l.erase a) (List.nodup_cons.1 hn).2 (fun x hx => (List.mem_erase_of_ne (fun (e : x = a) => (List.nodup_cons.1 hn).1 (by rw [← e]; exact hx))).2 (hs x (List.mem_cons_of_mem _ hx)))
    rw [List.length_erase_of_mem ha] at this
    have := List.length_pos_of_mem ha
    simp only [List.length_cons]
    omega
theorem mre_cnt {l : List Bs} {j : Nat} (hj : j ≤ 256) (h : ∀ t, t < j → mre t ∈ l) : j ≤ l.length := by
  have := nodup_len ((List.range j).map mre) l (by
    refine List.pairwise_map.2 (List.Pairwise.imp_of_mem ?_ (List.nodup_range (n := j)))
    intro a b ha hb hab e
    exact hab (mre_inj (by have := List.mem_range.1 ha; omega) (by have := List.mem_range.1 hb; omega) e)) (fun x hx => by
    obtain ⟨t, ht, rfl⟩ := List.mem_map.1 hx
    exact h t (List.mem_range.1 ht))
  simpa using this
theorem tot_ge {l : List Bs} (h : ∀ x ∈ l, 1 ≤ x.length) : l.length ≤ tot l := by
  induction l with
  | nil => simp [tot]
  | cons a r ih =>
    have h1 := h a (by simp)
    have h2 := ih (fun x hx => h x (List.mem_cons_of_mem _ hx))
    simp only [tot, List.map_cons, List.sum_cons, List.length_cons] at *
    omega
theorem Mk.few {lf : Bool} {n : Nd} (h : Mk lf 718 n) : n.keys.length ≤ 239 := by
  have h1 := tot_ge (fun x hx => (h.kl x hx).1)
  have h2 := h.sz
  unfold lsz at h2
  cases lf
  · have := (h.il rfl).2.1; omega
  · have := (h.vl rfl).1; omega
theorem wth_sub (n : Nd) (k v : Bs) (z : Int) (most : Nat) : ∀ x ∈ n.keys, x ∈ (wth n k v z most).keys := by
  intro x hx
  unfold wth
  split
  · exact hx
  · have : x ∈ n.keys.take (blw n.keys (ky k)) ∨ x ∈ n.keys.drop (blw n.keys (ky k)) := by
      rw [← List.mem_append, List.take_append_drop]; exact hx
    split <;> (simp only [List.mem_append, List.mem_cons, List.not_mem_nil, or_false]; rcases this with q | q <;> simp [q])
theorem wth_mem (n : Nd) (k v : Bs) (z : Int) (most : Nat) (h : lsz n + mor n.leaf (ky k) (v.take 200) ≤ most) : ky k ∈ (wth n k v z most).keys := by
  unfold wth
  split
  · rename_i q
    rcases q with q | q
    · unfold isat at q
      rw [decide_eq_true_eq] at q
      rw [← q.2, List.getD_eq_getElem?_getD, List.getElem?_eq_getElem q.1]
      exact List.getElem_mem _
    · omega
  · split <;> simp
/-- with, as a call whose answer comes. -/
theorem with_val2 (n : Nd) (vK vV vI : Value) (k v : Bs) (z : Int) (w : World) (lf : Bool) (hM : Mk lf 718 n) (h : NR n vK vV vI w) (hz : -9223372036854775808 ≤ z ∧ z ≤ 9223372036854775807) :
    Calls Tryz.prog 58 #[.agg #[.bool lf, vK, vV, vI], .agg #[S k, S v, I z], I 718] w fun e w' => ∃ u, e = .returned u ∧ ∃ (n' : Nd) (p1 p2 p3 : Option Addr) (c1 c2 c3 : Nat), u = .agg #[.bool lf, .slice p1 n'.keys.length c1, .slice p2 n'.vals.length c2, .slice p3 n'.kids.length c3] ∧ Mk lf 718 n' ∧ NR n' (.slice p1 n'.keys.length c1) (.slice p2 n'.vals.length c2) (.slice p3 n'.kids.length c3) w' ∧ Below w.heap.size w w' ∧ (∀ x ∈ n.keys, x ∈ n'.keys) ∧ (lsz n + mor lf (ky k) (v.take 200) ≤ 718 → ky k ∈ n'.keys) := by
  have hs := hM.sz
  have q := with_any n vK vV vI k v z 718 w h (by omega) (by omega) hz (fun e => (hM.vl (by rw [← hM.leaf]; exact e)).1) (fun e => by
    obtain ⟨a, b, _⟩ := hM.il (by rw [← hM.leaf]; exact e)
    exact ⟨fun q => by rw [q] at b; simp at b, a⟩)
  rw [hM.leaf] at q
  refine q.mono ?_
  rintro e w' ⟨r, hr, vK', vV', vI', rfl, hN, hb⟩
  obtain ⟨p1, p2, p3, c1, c2, c3, rfl, rfl, rfl, -⟩ := hN.na
  refine ⟨_, rfl, _, p1, p2, p3, c1, c2, c3, by rw [hM.leaf], hM.with k v r hr, hN, hb, wth_sub n k v _ 718, fun h1 => wth_mem n k v _ 718 (by rw [hM.leaf]; exact h1)⟩
theorem made2_any (lf : Bool) (a : Option Addr) (m cp : Nat) (l : List Ce) (L : Nat) (w : World) (hc : Ces w a m l) (hm : m ≤ 4294967296) (hL : 481 ≤ L ∧ L ≤ 680) :
    Calls Tryz.prog 32 #[.bool lf, .slice a m cp, I L, I 718] w fun e w' => ∃ n vK vV vI, Mk lf 718 n ∧ 480 < lsz n ∧ e = .returned (.agg #[.bool lf, vK, vV, vI]) ∧ NR n vK vV vI w' ∧ Below w.heap.size w w' := by
  have hA1 := (Below.refl w.heap.size w).alloc (Nat.le_refl _) (.cells #[.bool false, .slice none 0 0, .slice none 0 0, .slice none 0 0] 25)
  have g1 := heap_alloc_new w (.cells #[.bool false, .slice none 0 0, .slice none 0 0, .slice none 0 0] 25)
  have s1 := size_alloc w (.cells #[.bool false, .slice none 0 0, .slice none 0 0, .slice none 0 0] 25)
  generalize hW1 : w.alloc (.cells #[.bool false, .slice none 0 0, .slice none 0 0, .slice none 0 0] 25) = W1 at hA1 g1 s1
  have hq := heap_alloc_new W1 (.cells #[.bool false, .slice none 0 0, .slice none 0 0, .slice none 0 0] 25)
  have hb3 := (Below.refl W1.heap.size W1).alloc (Nat.le_refl _) (.cells #[.bool false, .slice none 0 0, .slice none 0 0, .slice none 0 0] 25)
  have ht := setRow_heap _ _ _ #[.bool lf, .slice none 0 0, .slice none 0 0, .slice none 0 0] 25 _ hq
  have hb4 := (setRow_only (W1.alloc (.cells #[.bool false, .slice none 0 0, .slice none 0 0, .slice none 0 0] 25)) W1.heap.size #[.bool lf, .slice none 0 0, .slice none 0 0, .slice none 0 0]).below hb3 hb3.size (fun k e => by omega)
  generalize hW2 : (W1.alloc (.cells #[.bool false, .slice none 0 0, .slice none 0 0, .slice none 0 0] 25)).setRow W1.heap.size #[.bool lf, .slice none 0 0, .slice none 0 0, .slice none 0 0] = W2 at ht hb4
  have HQ := hide hq
  have HW2 := hide hW2
  have HT := hide ht
  have HB4 := hide hb4
  have HA1 := hide hA1
  have HG1 := hide g1
  have HS1 := hide s1
  have hlW : W1.heap.size < W2.heap.size := lt_of_row ht
  obtain ⟨c0, c1, c2, c3⟩ := box4 ht (Below.refl _ _) hlW
  have f3 := frz ht 3
  have hml := hc.len
  have HML := hide hml
  have HC := hide (fun W (q : Below w.heap.size w W) => hc.below q)
  clear hq hb3 ht hb4 hW2 hA1 g1 s1 hc hml
  go_enter Tryz.func32, Tryz.ntmps32
  go_upto_if 15 with (first | (refine wp_st25 rfl (.tmp 9) (.tmp 13) rfl W1.heap.size (by rfl) lf none none none 0 0 0 0 0 0 (by rfl) _ rfl (unhide HQ) ?_; rw [unhide HW2]) | fail)
  clear hW1 HQ HW2
  go_cut [] from 16 to 17 (fun wx => ∃ n vK vV vI, Mk lf 718 n ∧ Mb W1 W1.heap.size n vK vV vI wx)
  case first =>
    cases lf
    · go_wp2
      go_meet
      exact ⟨⟨false, [], [], [2]⟩, .slice none 0 0, .slice none 0 0, .slice (some ⟨W2.heap.size, 0, none⟩) 1 1, Mk.first 718 (by omega) false, mb_two (unhide HT) (unhide HB4) (Nat.le_refl _)⟩
    · go_wp2
      go_meet
      exact ⟨⟨true, [], [], []⟩, .slice none 0 0, .slice none 0 0, .slice none 0 0, Mk.first 718 (by omega) true, ⟨unhide HT, ⟨owns_nil _ _ _, owns_nil _ _ _, owns_nil _ _ _, fun _ => ⟨rfl, rfl⟩⟩, unhide HB4, Nat.le_refl _⟩⟩
  case rest =>
    clear HT HB4 c0 c1 c2 c3 f3 hlW
    obtain ⟨n0, vK0, vV0, vI0, hM0, hB0⟩ := hcut
    have HM0 := hide (And.intro hM0 hB0)
    clear hM0 hB0
    generalize hT : W1.heap.size = T at *
    have HTE := hide hT
    clear hT
    go_wp2
    go_loopw [10] (fun i wr => ∃ k : Nat, k ≤ m ∧ i = .int .i64 k ∧ ∃ n vK vV vI, Mk lf 718 n ∧ Mb W1 T n vK vV vI wr) (fun i _ => m - (Go.RowKit.intOf i).toNat)
    case atStart => exact ⟨0, by omega, rfl, n0, vK0, vV0, vI0, (unhide HM0).1, (unhide HM0).2⟩
    case round =>
      clear HM0
      obtain ⟨k, hk, rfl, n, vK, vV, vI, hM, hB⟩ := hrel
      have hbw : Below w.heap.size w wr := (unhide HA1).trans (hB.bel.mono (unhide HA1).size)
      by_cases hlt : k < m
      · have hlt' : (k : Int) < (m : Int) := by omega
        have hCe := unhide HC _ hbw
        have hnum := hCe.num k hlt
        obtain ⟨p, o, rfl, hcc⟩ := hCe.cel (by omega)
        obtain ⟨h1, h2, h3⟩ := hcc k hlt
        have hpl := blk_lt h1
        generalize hck : (l.getD k ce0).k = ck at *
        generalize hcv : (l.getD k ce0).v = cv at *
        generalize hcz : (l.getD k ce0).z = cz at *
        clear hck hcv hcz hCe hcc
        have hBd := hB.below (Below.refl _ _).drew
        obtain ⟨ka, va, ia, kc, vc, ic, rfl, rfl, rfl, -⟩ := hB.nr.na
        have HW := hide (with_val2 n _ _ _ ck cv cz wr.drew lf hM hBd.nr hnum)
        obtain ⟨c0, c1, c2, c3⟩ := box4 hBd.blk (Below.refl _ _) (lt_of_row hBd.blk)
        rw [hM.leaf] at c0
        have hTl := lt_of_row hBd.blk
        have HBD := hide hBd
        have HLF := hide hM.leaf
        clear hB hBd hM hbw
        generalize hkl : n.keys.length = kl at *
        generalize hvl : n.vals.length = vl at *
        generalize hil : n.kids.length = il at *
        clear hkl hvl hil
        go_wp2
        go_region_law (refine step_callsE (f := 58) Tryz.func58 (by kernel_rfl) rfl rfl _ _ rfl #[.agg #[.bool lf, .slice ka kl kc, .slice va vl vc, .slice ia il ic], .agg #[S ck, S cv, I cz], I 718] (by first | (simp [Act.eval]; done) | (simp [Act.eval, Act.put]; done)) _ (unhide HW) ?_; rintro u w5 ⟨n', p1, p2, p3, c1', c2', c3', rfl, hM', hN', hb', -, -⟩; have hblk := (unhide HBD).below hb' |>.blk; obtain ⟨x0, x1, x2, x3⟩ := box4 hblk (Below.refl _ _) (lt_of_row hblk); have y0 := frz hblk 0; have y1 := frz hblk 1; have y2 := frz hblk 2; have y3 := frz hblk 3; have yl := lt_of_row hblk; have HP := hide ((unhide HBD).put hb' hN' (by rw [hM'.leaf, unhide HLF])); rw [unhide HLF] at HP; have HM' := hide hM'; clear hM' hN' hb' hblk)
        all_goals (
          go_wp2
          go_roundw
          case rel => exact ⟨k + 1, by omega, by go_num, n', _, _, _, unhide HM', unhide HP⟩
          case measure => simp [Go.RowKit.intOf]; omega)
      · have hlt' : ¬ (k : Int) < (m : Int) := by omega
        have HM0 := hide (And.intro hM hB)
        clear hM hB hbw HC HML
        go_wp2
        go_loopw [11] (fun i wx => ∃ j : Nat, j ≤ 256 ∧ i = .int .i64 j ∧ ∃ n vK vV vI, Mk lf 718 n ∧ Mb W1 T n vK vV vI wx ∧ (∀ t, t < j → mre t ∈ n.keys)) (fun i _ => 256 - (Go.RowKit.intOf i).toNat)
        case atStart => exact ⟨0, by omega, rfl, n, vK, vV, vI, (unhide HM0).1, (unhide HM0).2, fun t q => by omega⟩
        case round =>
          clear HM0
          obtain ⟨j, hj, rfl, n, vK, vV, vI, hM, hB, hne⟩ := hrel
          have hj2 : j ≤ 239 := Nat.le_trans (mre_cnt hj hne) hM.few
          obtain ⟨ka, va, ia, kc, vc, ic, rfl, rfl, rfl, hna⟩ := hB.nr.na
          have hZ := lsize_any n ka va ia kc vc ic _ hna (lsz_nb (by have := hM.sz; omega))
          unfold nda at hZ
          rw [hM.leaf] at hZ
          have HZ := hide hZ
          obtain ⟨c0, c1, c2, c3⟩ := box4 hB.blk (Below.refl _ _) (lt_of_row hB.blk)
          rw [hM.leaf] at c0
          have hTl := lt_of_row hB.blk
          have HB := hide hB
          have HM := hide hM
          have HNE := hide hne
          have hls := hM.sz
          have HK0 := hide (show n.keys.length = 0 → lsz n ≤ 4 from fun h0 => by
            have hkn : n.keys = [] := List.eq_nil_of_length_eq_zero h0
            unfold lsz
            rw [hkn]
            have t0 : tot [] = 0 := rfl
            cases lf
            · obtain ⟨a1, a2, -⟩ := hM.il rfl
              rw [a1, a2, hkn]
              simp only [List.length_nil, t0]
              omega
            · obtain ⟨a1, a2, -⟩ := hM.vl rfl
              have a3 : n.vals = [] := List.eq_nil_of_length_eq_zero (by rw [a1, hkn]; rfl)
              rw [a2, a3]
              simp only [List.length_nil, t0]
              omega)
          clear hB hM hne hna hZ
          generalize hlz : lsz n = lz at *
          have HLZ := hide hlz
          clear hlz
          generalize hkl : n.keys.length = kl at *
          generalize hvl : n.vals.length = vl at *
          generalize hil : n.kids.length = il at *
          clear hkl hvl hil
          by_cases hlt2 : lz < L
          · have hlz0 : decide ((lz : Int) < (L : Int)) = true := by rw [decide_eq_true_eq]; omega
            go_wp2_with fail
            refine (unhide HZ).mono ?_
            rintro e w5 ⟨rfl, b5⟩
            have hB5 := (unhide HB).below b5
            clear c0 c1 c2 c3 hTl HZ b5
            obtain ⟨c0, c1, c2, c3⟩ := box4 hB5.blk (Below.refl _ _) (lt_of_row hB5.blk)
            rw [(unhide HM).leaf] at c0
            have hTl := lt_of_row hB5.blk
            have HB5 := hide hB5
            clear hB5 HB HK0
            have hkm := mre_ky j
            have HMO := hide (show lsz n + mor lf (ky (mre j)) (List.take 200 [116, 119, 101, 110, 116, 121, 32, 98, 121, 116, 101, 115, 32, 111, 114, 32, 115, 111, 32, 46, 46]) ≤ 718 by rw [unhide HLZ, hkm]; cases lf <;> simp [mor, mre] <;> omega)
            have HW := hide (fun W (q : Below w5.heap.size w5 W) => with_val2 n (.slice ka kl kc) (.slice va vl vc) (.slice ia il ic) (mre j) [116, 119, 101, 110, 116, 121, 32, 98, 121, 116, 101, 115, 32, 111, 114, 32, 115, 111, 32, 46, 46] 0 W lf (unhide HM) ((unhide HB5).nr.below q) (by omega))
            rw [hkm] at HMO
            rw [hkm] at HW
            clear hkm
            have hwr : IntKind.u8.wrap (j : Int) = (j : Int) := by rw [IntKind.wrap_u8]; omega
            have hcv : (convert 79 9 (.slice (some ⟨w5.heap.size, 0, none⟩) 1 1)).run Tryz.prog (w5.alloc (.cells #[.int .u8 j] 5)) = .ok (S [UInt8.ofNat j]) (w5.alloc (.cells #[.int .u8 j] 5)) := run_text _ w5.heap.size 0 1 1 [UInt8.ofNat j] rfl (fun i hi => by
              obtain rfl : i = 0 := by omega
              rw [cell_of_row _ _ (0 + 0) _ 5 (0, 0) (heap_alloc_new w5 (.cells #[.int .u8 j] 5))]
              simp
              omega)
            have hca : (⟨#[109, 111, 114, 101]⟩ : ByteArray) ++ ⟨[UInt8.ofNat j].toArray⟩ = ⟨(mre j).toArray⟩ := by
              unfold mre
              generalize UInt8.ofNat j = b
              rfl
            generalize hmj : mre j = mj at *
            have HMJ := hide hmj
            clear hmj
            go_wp2_with fail
            refine (unhide HW _ (((Below.refl _ _).alloc (Nat.le_refl _) _))).mono ?_
            rintro e w6 ⟨u, rfl, n', p1, p2, p3, c1', c2', c3', rfl, hM', hN', hb', hks, hke⟩
            have hb6 := ((Below.refl w5.heap.size w5).alloc (Nat.le_refl _) (.cells #[.int .u8 j] 5)).trans (hb'.mono (by simp))
            have hblk := ((unhide HB5).below hb6).blk
            obtain ⟨x0, x1, x2, x3⟩ := box4 hblk (Below.refl _ _) (lt_of_row hblk)
            have y0 := frz hblk 0
            have y1 := frz hblk 1
            have y2 := frz hblk 2
            have y3 := frz hblk 3
            have yl := lt_of_row hblk
            have HP := hide ((unhide HB5).put hb6 hN' (by rw [hM'.leaf, (unhide HM).leaf]))
            rw [(unhide HM).leaf] at HP
            have HM' := hide hM'
            have HKE := hide (show ∀ t, t < j + 1 → mre t ∈ n'.keys from fun t ht => by
              rcases Nat.lt_or_ge t j with q | q
              · exact hks _ (unhide HNE t q)
              · obtain rfl : t = j := by omega
                rw [unhide HMJ]
                exact hke (unhide HMO))
            clear hM' hN' hb' hblk hb6 hke hks hcv hca c0 c1 c2 c3 hTl
            go_wp2
            go_roundw
            case rel => exact ⟨j + 1, by omega, by go_num, n', _, _, _, unhide HM', unhide HP, unhide HKE⟩
            case measure => simp [Go.RowKit.intOf]; omega
          · have hlz0 : decide ((lz : Int) < (L : Int)) = false := by rw [decide_eq_false_iff_not]; omega
            have hk0 : kl ≠ 0 := fun q => by have := unhide HK0 q; omega
            have hk0' : ((kl : Int) == 0) = false := by simp; omega
            go_wp2_with fail
            refine (unhide HZ).mono ?_
            rintro e w5 ⟨rfl, b5⟩
            have hB5 := (unhide HB).below b5
            clear c0 c1 c2 c3 hTl HZ b5
            obtain ⟨c0, c1, c2, c3⟩ := box4 hB5.blk (Below.refl _ _) (lt_of_row hB5.blk)
            rw [(unhide HM).leaf] at c0
            have hTl := lt_of_row hB5.blk
            have HB5 := hide hB5
            clear hB5 HB HK0
            have hbe := (unhide HB5).bel
            have hzw : w.heap.size < W1.heap.size := by have := unhide HS1; have := unhide HTE; omega
            have g5 := (hbe.block _ hzw).trans (unhide HG1)
            have G5 := hide g5
            have hzl := lt_of_row g5
            clear g5 hbe
            go_wp2_with (refine wp_st25 rfl (.tmp 8) (.tmp 52) rfl w.heap.size (by rfl) lf ka va ia kl kc vl vc il ic (by rfl) _ rfl (unhide G5) ?_)
            have hr := setRow_heap _ _ _ #[.bool lf, .slice ka kl kc, .slice va vl vc, .slice ia il ic] 25 _ (unhide G5)
            have oF := setRow_only w5 w.heap.size #[.bool lf, .slice ka kl kc, .slice va vl vc, .slice ia il ic]
            have hbb := (unhide HA1).trans ((unhide HB5).bel.mono (unhide HA1).size)
            have hN := (unhide HB5).nr
            refine outN1 (p := 8) rfl (by rfl) (by rfl) hr ⟨n, _, _, _, unhide HM, by rw [unhide HLZ]; omega, rfl, ⟨owns_only hN.rK oF (fun i hi e => not_T (unhide G5) hN.rK (by decide) i hi e), owns_only hN.rV oF (fun i hi e => not_T (unhide G5) hN.rV (by decide) i hi e), owns_only hN.rI oF (fun i hi e => not_T (unhide G5) hN.rI (by decide) i hi e), hN.nl⟩, oF.below hbb hbb.size (fun i e => by omega)⟩
end Go.Proofs.YtllialbdofklgaaGreatDoor
