import Derived.Test.YtllialbdofklgaaGreatDoorZnfi
import Derived.Test.YtllialbdofklgaaGreatDoorNdm
import Derived.Deep.CutRange
namespace Go.Proofs.YtllialbdofklgaaGreatDoor
open Go.RowKit
set_option maxHeartbeats 16000000
set_option maxRecDepth 8000
theorem lsz_nb {n : Nd} (h : lsz n ≤ 100000) : NB n := by
  unfold lsz at h
  exact ⟨by omega, by omega, by omega, by omega, by omega⟩
theorem box3 {B g : Nat} {a b c : Value} {w0 w : World} (h : w0.heap[g]? = some (.cells #[a, b, c] 77 (0, 0))) (hb : Below B w0 w) (hg : g < B) : w.cell? ⟨g, 0, none⟩ = some a ∧ w.cell? ⟨g, 1, none⟩ = some b ∧ w.cell? ⟨g, 2, none⟩ = some c := by
  have h2 : w.heap[g]? = some (.cells #[a, b, c] 77 (0, 0)) := (hb.block g hg).trans h
  have := fun j => cell_of_row w g j _ 77 (0, 0) h2
  refine ⟨?_, ?_, ?_⟩ <;> (rw [this]; rfl)
theorem ky_len (k : Bs) : (ky k).length ≤ 36 := by
  unfold ky
  split
  · simp
  · rw [List.length_take]; omega
theorem sts_take {w : World} {g o n : Nat} {l : List Bs} (h : Sts w (some ⟨g, o, none⟩) n l) {i : Nat} (hi : i ≤ n) : Sts w (some ⟨g, o, none⟩) i (l.take i) := by
  refine ⟨by rw [List.length_take, ← h.1]; omega, fun hp => ?_⟩
  obtain ⟨p, q, e, hc⟩ := h.2 (by omega)
  refine ⟨p, q, e, fun j hj => ?_⟩
  rw [hc j (by omega), List.getD_eq_getElem?_getD, List.getD_eq_getElem?_getD, List.getElem?_take_of_lt hj]
theorem sts_drop {w : World} {g o n : Nat} {l : List Bs} (h : Sts w (some ⟨g, o, none⟩) n l) (i : Nat) : Sts w (some ⟨g, o + i, none⟩) (n - i) (l.drop i) := by
  refine ⟨by rw [List.length_drop, ← h.1], fun hp => ?_⟩
  obtain ⟨p, q, e, hc⟩ := h.2 (by omega)
  cases e
  refine ⟨g, o + i, rfl, fun j hj => ?_⟩
  rw [Nat.add_assoc, hc (i + j) (by omega), List.getD_eq_getElem?_getD, List.getD_eq_getElem?_getD, List.getElem?_drop]
/-- A row of texts that came: none, or in a block of its own. -/
theorem row_or {w : World} {a : Option Addr} {c : Nat} {l : List Bs} (h : w.ownsRow 0 9 1 (.slice a l.length c) l.length (l.map S)) (hn : l = [] → (Value.slice a l.length c) = .slice none 0 0) : (l = [] ∧ a = none ∧ c = 0) ∨ (∃ g, a = some ⟨g, 0, none⟩ ∧ l.length ≤ c ∧ 0 < l.length) := by
  rcases h.2 with ⟨e, q⟩ | ⟨g, cap, cur, e, _, _, r1, _⟩
  · injection e with e1 e2 e3
    exact .inl ⟨List.eq_nil_of_length_eq_zero q, e1, e3⟩
  · injection e with e1 e2 e3
    subst e1
    subst e3
    refine .inr ⟨g, rfl, r1, Nat.pos_of_ne_zero fun q => ?_⟩
    have := hn (List.eq_nil_of_length_eq_zero q)
    injection this with this
    cases this
/-- What with leaves. -/
def WPost (n : Nd) (k v : Bs) (most : Nat) (w : World) (e : Ending) (w' : World) : Prop := ∃ r : Nat, r < 1000 ∧ ∃ vK' vV' vI', e = .returned (.agg #[.bool n.leaf, vK', vV', vI']) ∧ NR (wth n k v ((2 + 1000 * n.kids.length + r : Nat) : Int) most) vK' vV' vI' w' ∧ Below w.heap.size w w'
theorem with_same {n : Nd} {k v : Bs} {most : Nat} {vK vV vI : Value} {w W3 w4 : World} {R : Nat} {old : Array Value} (hq : isat n.keys (ky k) = true ∨ most < lsz n + mor n.leaf (ky k) (v.take 200)) (hA : Below w.heap.size w W3) (hN : NR n vK vV vI W3) (hR : w.heap.size ≤ R) (hB : Below W3.heap.size W3 w4) (hr : w4.heap[R]? = some (.cells old 25 (0, 0))) (cs : Array Value) (hcs : cs = #[.bool n.leaf, vK, vV, vI]) : WPost n k v most w (.returned (.agg cs)) (w4.setRow R cs) := by
  subst hcs
  have hb := hA.trans (hB.mono hA.size)
  have oF := setRow_only w4 R #[.bool n.leaf, vK, vV, vI]
  have hN4 := hN.below hB
  refine ⟨0, by omega, vK, vV, vI, rfl, ?_, oF.below hb hb.size (fun i e => by rw [e]; exact hR)⟩
  unfold wth
  rw [if_pos hq]
  exact ⟨owns_only hN4.rK oF (fun i hi e => not_T hr hN4.rK (by decide) i hi e), owns_only hN4.rV oF (fun i hi e => not_T hr hN4.rV (by decide) i hi e), owns_only hN4.rI oF (fun i hi e => not_T hr hN4.rI (by decide) i hi e), hN4.nl⟩
theorem sts_dropq {w : World} {g n c : Nat} {l : List Bs} (h : Sts w (some ⟨g, 0, none⟩) n l) (i : Nat) (hc : n ≤ c) : Sts w (some ⟨g, if c = i then 0 else i, none⟩) (n - i) (l.drop i) := by
  by_cases e : c = i
  · exact ⟨by rw [List.length_drop, ← h.1], fun q => by omega⟩
  · rw [if_neg e]
    have := sts_drop h i
    rwa [Nat.zero_add] at this
theorem with_new {n : Nd} {k v : Bs} {most : Nat} {w w4 wc : World} {R T : Nat} {old : Array Value} {lf : Bool} {KK VV : List Bs} {LL : List Int} {vk vv vi : Value} {r : Nat} (hO : Ot w4 T lf KK VV LL vk vv vi wc) (hA : Below w.heap.size w w4) (hR : w.heap.size ≤ R) (hr0 : r < 1000 := by omega) (hw : wth n k v ((2 + 1000 * n.kids.length + r : Nat) : Int) most = ⟨lf, KK, VV, LL⟩) (hr : wc.heap[R]? = some (.cells old 25 (0, 0))) (hlf : n.leaf = lf) (hne : KK ≠ []) : WPost n k v most w (.returned (.agg #[.bool lf, vk, vv, vi])) (wc.setRow R #[.bool lf, vk, vv, vi]) := by
  have hb := hA.trans (hO.bel.mono hA.size)
  have oF := setRow_only wc R #[.bool lf, vk, vv, vi]
  refine ⟨r, hr0, vk, vv, vi, by rw [hlf], ?_, oF.below hb hb.size (fun i e => by rw [e]; exact hR)⟩
  rw [hw]
  exact ⟨owns_only hO.rK oF (fun i hi e => not_T hr hO.rK (by decide) i hi e), owns_only hO.rV oF (fun i hi e => not_T hr hO.rV (by decide) i hi e), owns_only hO.rI oF (fun i hi e => not_T hr hO.rI (by decide) i hi e), fun q => absurd q hne⟩
theorem with_any (n : Nd) (vK vV vI : Value) (k v : Bs) (z : Int) (most : Nat) (w : World) (h : NR n vK vV vI w) (hs : lsz n ≤ 100000) (hmost : most ≤ 100000) (hz : -9223372036854775808 ≤ z ∧ z ≤ 9223372036854775807) (hlv : n.leaf = true → n.vals.length = n.keys.length) (hli : n.leaf = false → n.kids ≠ [] ∧ n.vals = []) :
    Calls Tryz.prog 58 #[.agg #[.bool n.leaf, vK, vV, vI], .agg #[S k, S v, I z], I most] w (WPost n k v most w) := by
  obtain ⟨ka, va, ia, kc, vc, ic, rfl, rfl, rfl, -⟩ := h.na
  have hnb := lsz_nb hs
  have hA1 := (Below.refl w.heap.size w).alloc (Nat.le_refl _) (.cells #[.bool n.leaf, .slice ka n.keys.length kc, .slice va n.vals.length vc, .slice ia n.kids.length ic] 25)
  have g1 := heap_alloc_new w (.cells #[.bool n.leaf, .slice ka n.keys.length kc, .slice va n.vals.length vc, .slice ia n.kids.length ic] 25)
  have s1 := size_alloc w (.cells #[.bool n.leaf, .slice ka n.keys.length kc, .slice va n.vals.length vc, .slice ia n.kids.length ic] 25)
  generalize hW1 : w.alloc (.cells #[.bool n.leaf, .slice ka n.keys.length kc, .slice va n.vals.length vc, .slice ia n.kids.length ic] 25) = W1 at hA1 g1 s1
  have hA2 := hA1.alloc hA1.size (.cells #[S k, S v, I z] 77)
  have g12 := (alloc_old W1 (.cells #[S k, S v, I z] 77) (lt_of_row g1)).trans g1
  have g2 := heap_alloc_new W1 (.cells #[S k, S v, I z] 77)
  have s2 := size_alloc W1 (.cells #[S k, S v, I z] 77)
  generalize hW2 : W1.alloc (.cells #[S k, S v, I z] 77) = W2 at hA2 g12 g2 s2
  have hA3 := hA2.alloc hA2.size (.cells #[.bool false, .slice none 0 0, .slice none 0 0, .slice none 0 0] 25)
  have g13 := (alloc_old W2 (.cells #[.bool false, .slice none 0 0, .slice none 0 0, .slice none 0 0] 25) (lt_of_row g12)).trans g12
  have g23 := (alloc_old W2 (.cells #[.bool false, .slice none 0 0, .slice none 0 0, .slice none 0 0] 25) (lt_of_row g2)).trans g2
  have g3 := heap_alloc_new W2 (.cells #[.bool false, .slice none 0 0, .slice none 0 0, .slice none 0 0] 25)
  have s3 := size_alloc W2 (.cells #[.bool false, .slice none 0 0, .slice none 0 0, .slice none 0 0] 25)
  generalize hW3 : W2.alloc (.cells #[.bool false, .slice none 0 0, .slice none 0 0, .slice none 0 0] 25) = W3 at hA3 g13 g23 g3 s3
  have HXS := hide (show W1.heap.size = w.heap.size + 1 ∧ W2.heap.size = W1.heap.size + 1 ∧ W3.heap.size = W2.heap.size + 1 from ⟨s1, s2, s3⟩)
  have z1 : w.heap.size < W3.heap.size := lt_of_row g13
  have z2 : W1.heap.size < W3.heap.size := lt_of_row g23
  have z3 : W2.heap.size < W3.heap.size := lt_of_row g3
  have HNR := hide (h.below hA3)
  have HA3 := hide hA3
  have G1 := hide g13
  have G2 := hide g23
  have G3 := hide g3
  obtain ⟨c0, c1, c2, c3⟩ := box4 g13 (Below.refl _ _) z1
  obtain ⟨d0, d1, d2⟩ := box3 g23 (Below.refl _ _) z2
  have HP := hide (place_any ka n.keys.length kc n.keys (ky k) W3 (by
    obtain ⟨a, b, c, d, e, f, q1, q2, q3, q4⟩ := (h.below hA3).na
    cases q1
    exact q4.ks) hnb.k)
  have HZ := hide (fun W (q : Below W3.heap.size W3 W) => by
    obtain ⟨a, b, c, d, e, f, q1, q2, q3, q4⟩ := ((h.below hA3).below q).na
    cases q1
    cases q2
    cases q3
    exact lsize_any n ka va ia kc vc ic W q4 hnb)
  unfold nda at HZ
  have HK1 := hide (short_any k 36 W3)
  have HV1 := hide (short_any v 200 W3)
  have hkl := ky_len k
  have hvl : (v.take 200).length ≤ 200 := by rw [List.length_take]; omega
  have HKY := hide (show ky k = if k.take 36 = [] then [107] else k.take 36 from rfl)
  clear h hA1 hA2 hA3 g1 g12 g13 g2 g23 g3 s1 s2 s3 hnb
  generalize hky : ky k = key at *
  generalize hkt : k.take 36 = kt at *
  generalize hvt : v.take 200 = val at *
  have HKV := hide (And.intro hky hvt)
  have b1 : n.keys.length ≤ 100000 := by unfold lsz at hs; omega
  have b2 : n.vals.length ≤ 100000 := by unfold lsz at hs; omega
  have b3 : n.kids.length ≤ 100000 := by unfold lsz at hs; omega
  clear hky hkt hvt
  generalize hil : n.kids.length = il at *
  go_enter Tryz.func58, Tryz.ntmps58
  go_wp2_with fail
  refine (unhide HK1).mono ?_
  rintro e w1 ⟨rfl, rfl⟩
  go_upto_if 17 with fail
  go_cut [7] from 16 to 17 (fun s7 wx => s7 = S key ∧ wx = w1)
  case first =>
    clear HP HZ HV1 HNR
    cases kt with
    | nil =>
      have HE := hide (show S key = S [107] by rw [unhide HKY, if_pos rfl])
      go_wp2
      go_meet
      exact ⟨(unhide HE).symm, rfl⟩
    | cons b1 b2 =>
      have HE := hide (show S key = S (b1 :: b2) by rw [unhide HKY, if_neg (by simp)])
      go_wp2
      go_meet
      exact ⟨(unhide HE).symm, rfl⟩
  case rest =>
    obtain ⟨rfl, rfl⟩ := hcut
    clear HK1 HKY hW1 hW2 hW3
    have HIL := hide hil
    clear hil
    go_wp2_with fail
    refine (unhide HV1).mono ?_
    rintro e w2 ⟨rfl, rfl⟩
    clear HV1
    go_wp2_with fail
    refine (unhide HP).mono ?_
    rintro e w3 ⟨rfl, q, rfl⟩
    clear HP
    have HB3 := hide (bel_q (Below.refl w2.heap.size w2) q)
    have HZ3 := hide (unhide HZ _ (unhide HB3))
    clear c0 c1 c2 c3 d0 d1 d2 HZ
    obtain ⟨c0, c1, c2, c3⟩ := box4 (unhide G1) (unhide HB3) z1
    obtain ⟨d0, d1, d2⟩ := box3 (unhide G2) (unhide HB3) z2
    have y1 : w.heap.size < (w2.drewN q).heap.size := z1
    have y2 : W1.heap.size < (w2.drewN q).heap.size := z2
    generalize w2.drewN q = W at *
    have hsk := hs
    have HSZ := hide (show lsz n = lsz n from rfl)
    generalize hls : lsz n = ls at *
    have HLS := hide hls
    clear hls
    have hbl := blw_le n.keys key
    generalize hbw : blw n.keys key = bi at *
    have HBW := hide hbw
    clear hbw
    generalize hat : isat n.keys key = at_ at *
    have HAT := hide hat
    clear hat
    have G3W := hide (((unhide HB3).block _ z3).trans (unhide G3))
    cases hlf : n.leaf
    · have HLI := hide (hli hlf)
      have HLF := hide hlf
      rw [hlf] at c0 HZ3 G1
      clear hlv hli hlf
      cases at_
      · go_wp2_with fail
        refine (unhide HZ3).mono ?_
        rintro e w4 ⟨rfl, b4⟩
        have HB4 := hide ((unhide HB3).trans (b4.mono (unhide HB3).size))
        clear c0 c1 c2 c3 d0 d1 d2 b4 y1 y2
        obtain ⟨c0, c1, c2, c3⟩ := box4 (unhide G1) (unhide HB4) z1
        have y1 : w.heap.size < w4.heap.size := Nat.lt_of_lt_of_le z1 (unhide HB4).size
        have G34 := hide (((unhide HB4).block _ z3).trans (unhide G3))
        by_cases hgt : most < ls + (5 + key.length)
        · have hg' : decide ((most : Int) < (ls : Int) + (5 + (key.length : Int))) = true := by rw [decide_eq_true_eq]; omega
          go_wp2_with (refine wp_st25 rfl (.tmp 6) (.tmp 49) rfl W2.heap.size (by rfl) false ka va ia n.keys.length kc n.vals.length vc il ic (by rfl) _ rfl (unhide G34) ?_)
          have hr := setRow_heap _ _ _ #[.bool false, .slice ka n.keys.length kc, .slice va n.vals.length vc, .slice ia il ic] 25 _ (unhide G34)
          obtain ⟨x1, x2⟩ := unhide HKV
          have hXS := unhide HXS
          refine outN1 (p := 6) rfl (by rfl) (by rfl) hr (with_same (.inr ?_) (unhide HA3) (unhide HNR) (by omega) (unhide HB4) (unhide G34) _ ?_)
          · rw [x1, x2, unhide HLF, unhide HLS]
            unfold mor
            rw [if_neg (by simp)]
            exact hgt
          · rw [unhide HLF]
        · have hg' : decide ((most : Int) < (ls : Int) + (5 + (key.length : Int))) = false := by rw [decide_eq_false_iff_not]; omega
          have hq := heap_alloc_new w4 (.cells #[.bool false, .slice none 0 0, .slice none 0 0, .slice none 0 0] 25)
          have hb5 := (Below.refl w4.heap.size w4).alloc (Nat.le_refl _) (.cells #[.bool false, .slice none 0 0, .slice none 0 0, .slice none 0 0] 25)
          have ht := setRow_heap _ _ _ #[.bool false, .slice none 0 0, .slice none 0 0, .slice none 0 0] 25 _ hq
          have hb6 := (setRow_only (w4.alloc (.cells #[.bool false, .slice none 0 0, .slice none 0 0, .slice none 0 0] 25)) w4.heap.size #[.bool false, .slice none 0 0, .slice none 0 0, .slice none 0 0]).below hb5 hb5.size (fun k e => by omega)
          have HQ := hide hq
          clear hq hb5
          generalize hW5 : (w4.alloc (.cells #[.bool false, .slice none 0 0, .slice none 0 0, .slice none 0 0] 25)).setRow w4.heap.size #[.bool false, .slice none 0 0, .slice none 0 0, .slice none 0 0] = W5 at ht hb6
          have HW5 := hide hW5
          have hO : Ot w4 w4.heap.size false [] [] [] (.slice none 0 0) (.slice none 0 0) (.slice none 0 0) W5 :=
            ⟨ht, owns_nil _ _ _, owns_nil _ _ _, owns_nil _ _ _, hb6, Nat.le_refl _, (fun i hi => nomatch hi), (fun i hi => nomatch hi), (fun i hi => nomatch hi), (fun i hi => nomatch hi)⟩
          have HO := hide hO
          clear hW5 ht hb6 hO
          have HSR := hide (fun W (q : Below w4.heap.size w4 W) => (unhide HNR).below ((unhide HB4).trans (q.mono (unhide HB4).size)))
          have HBX := hide (fun W (q : Below w4.heap.size w4 W) => box4 (unhide G1) ((unhide HB4).trans (q.mono (unhide HB4).size)) z1)
          have HGT := hide hgt
          clear G34 HZ3 G3W hgt
          go_upto_region 12 with (first | (refine wp_st25 rfl (.tmp 12) (.tmp 52) rfl w4.heap.size (by rfl) false none none none 0 0 0 0 0 0 (by rfl) _ rfl (unhide HQ) ?_; rw [unhide HW5]) | fail)
          clear HQ HW5 c0 c1 c2 c3 y1
          have HKS := hide (row_or (unhide HNR).rK (fun q => ((unhide HNR).nl q).1))
          have hbkeys : bi ≤ n.keys.length := hbl
          generalize hTT : w4.heap.size = T at *
          have HTT := hide hTT
          clear hTT hbl
          simp only [Act.put]
          go_cut [] from 53 to 120 (fun wx => ∃ vk, Ot w4 T false (n.keys.take bi) [] [] vk (.slice none 0 0) (.slice none 0 0) wx)
          case first =>
            have hOd := (unhide HO).below (Below.refl _ _).drew
            have hbel : Below T w4 W5.drew := by have := hOd.bel; rwa [unhide HTT] at this
            obtain ⟨c0, c1, c2, c3⟩ := unhide HBX _ hbel
            have hNR := unhide HSR _ hbel
            obtain ⟨e0, e1, e2, e3⟩ := hOd.cells
            have hTl := lt_of_row hOd.blk
            have hXl : w.heap.size < W5.drew.heap.size := by have := hbel.size; have := (unhide HB4).size; have := unhide HTT; omega
            have f1 := frz hOd.blk 1
            have hOl : 0 ≤ 100001 := by omega
            have HRR := hide (show W5.drew.ownsRow 0 9 1 (Value.slice none 0 0) (0) ((([] : List Bs)).map S) from by have q := hOd.rK; rwa [show (([] : List Bs)).length = 0 by have := hbkeys; simp <;> omega] at q)
            have HOD := hide hOd
            rcases unhide HKS with ⟨hk0, hk2, hk3⟩ | ⟨gk, hk2, r1, r2⟩
            · have hk1 : n.keys.length = 0 := by rw [hk0]; rfl
              have hb0 : bi = 0 := by have := hbkeys; omega
              have HK0 := hide hk0
              have HB0 := hide hb0
              rw [hk1, hk2, hk3] at c1
              subst hb0
              clear hk0 hk1 hNR hbel hOd hk2 hk3
              go_region_law (refine step_appN rfl (.tmp 54) (.tmp 58) rfl (Value.slice none 0 0) (0) (([] : List Bs)) (by rfl) (unhide HRR) (by rfl) ?_)
              all_goals (
                go_wp2
                go_meet
                refine ⟨(Value.slice none 0 0), ?_⟩
                have q := (unhide HOD).setK (m := 0) (([] : List Bs)) (by simp) (unhide HRR) (Only.refl _ _) (fun i hi => .inl hi)
                rw [show (n.keys.take 0) = ([] : List Bs) by simp [unhide HK0]]
                exact q)
            · obtain ⟨xa, xb, xc, xd, xe, xf, q1, q2, q3, q4⟩ := hNR.na
              rw [hk2] at c1
              have q5 : ka = xa := by cases q1; rfl
              rw [← q5, hk2] at q4
              have HST := hide (sts_take q4.ks hbkeys)
              have r1' : bi ≤ kc := by have := hbkeys; omega
              have r1'' : (bi : Int) ≤ (kc : Int) := by omega
              have r3' : (bi : Int) ≤ (n.keys.length : Int) := by have := hbkeys; omega
              have r4' : n.keys.length ≤ kc := r1
              have hTd : ∀ (w3 : World), Only (fun k => ((Value.slice none 0 0)).ownBlock = some k) W5.drew w3 → w3.heap[T]? = some (.cells #[.bool false, .slice none 0 0, .slice none 0 0, .slice none 0 0] 25 (0, 0)) := fun w3 o3 => hOd.blk1 (not_T hOd.blk hOd.rK (by decide)) o3
              have HTD := hide hTd
              clear hNR hbel hOd q1 q2 q3 q4 hTd q5 hk2
              go_region_law (refine step_appS rfl (.tmp 54) (.tmp 58) rfl (Value.slice none 0 0) (0) (([] : List Bs)) (by rfl) (unhide HRR) gk 0 bi kc (n.keys.take bi) (unhide HST) (by rfl) (by have := hbkeys; omega) ?_; intro p3 cap3 w3 r3 o3 n3; have e3 := unhide HTD w3 o3; have c6 : w3.cell? ⟨T, 1, none⟩ = some ((Value.slice none 0 0)) := cell_of_row w3 _ 1 _ 25 (0, 0) e3; have f6 := frz e3 1; have l6 := lt_of_row e3; have HG3 := hide ((unhide HOD).setK (([] : List Bs) ++ (n.keys.take bi)) (by have := hbkeys; simp; omega) r3 o3 n3); clear r3 o3 n3 e3)
              all_goals (
                go_wp2
                go_meet
                first
                  | (refine ⟨Value.slice p3 (0 + bi) cap3, ?_⟩; rw [show (n.keys.take bi) = ([] : List Bs) ++ (n.keys.take bi) by simp]; exact unhide HG3)
                  | (have q := unhide HG3; simp only [Nat.zero_add, List.nil_append] at q; exact ⟨_, q⟩))
          case rest =>
          obtain ⟨vq, hO1⟩ := hcut
          have hlt : (n.keys.take bi).length = bi := by rw [List.length_take]; have := hbkeys; omega
          have hr1 := hO1.rK
          rw [hlt] at hr1
          obtain ⟨pq, cq, rfl⟩ := owns_form hr1
          have hbel : Below T w4 wc := by have := hO1.bel; rwa [unhide HTT] at this
          obtain ⟨c0, c1, c2, c3⟩ := unhide HBX _ hbel
          obtain ⟨e0, e1, e2, e3⟩ := hO1.cells
          have hTl := lt_of_row hO1.blk
          have hXl : w.heap.size < wc.heap.size := by have := hbel.size; have := (unhide HB4).size; have := unhide HTT; omega
          have HR := hide hr1
          have HO1 := hide hO1
          clear hO1 hr1 hbel HO hlt
          go_upto_region 14 with (first | (at_builtin; refine push_own 22 9 _ 1 16 Tryz.underlying22 info9 rfl (by decide) rfl (.tmp 62) (.tmp 64) rfl (.slice pq bi cq) bi ((n.keys.take bi).map S) (by rfl) wc (unhide HR) [S key] rfl (by intro u hu; simp at hu; subst hu; rfl) (by rfl) (by have := hbkeys; omega) (by have := hbkeys; omega) ?_; intro p3 cap3 w3 r3 o3 n3; have e3 := (unhide HO1).blk1 (not_T (unhide HO1).blk (unhide HO1).rK (by decide)) o3; have c6 : w3.cell? ⟨T, 1, none⟩ = some (.slice pq bi cq) := cell_of_row w3 _ 1 _ 25 (0, 0) e3; have f6 := frz e3 1; have l6 := lt_of_row e3; have HG3 := hide ((unhide HO1).setK (m := bi + 1) (n.keys.take bi ++ [key]) (by have := hbkeys; simp; omega) (by simpa using r3) o3 n3); clear r3 o3 n3 e3) | fail)
          clear HO1 HR c0 c1 c2 c3 e0 e1 e2 e3 hTl hXl
          try clear c6
          try clear f6
          try clear l6
          generalize hWn : w3.setCell ⟨T, 1, none⟩ (.slice p3 (bi + 1) cap3) = W6 at *
          clear hWn
          generalize hpz : p3 = pz at *
          generalize hcz : cap3 = cz at *
          clear hpz hcz
          have HO := HG3
          clear HG3
          go_cut [] from 67 to 120 (fun wx => ∃ vq, Ot w4 T false (n.keys.take bi ++ [key] ++ n.keys.drop bi) [] [] vq (.slice none 0 0) (.slice none 0 0) wx)
          case first =>
            have hOd := (unhide HO).below (Below.refl _ _).drew
            have hbel : Below T w4 W6.drew := by have := hOd.bel; rwa [unhide HTT] at this
            obtain ⟨c0, c1, c2, c3⟩ := unhide HBX _ hbel
            have hNR := unhide HSR _ hbel
            obtain ⟨e0, e1, e2, e3⟩ := hOd.cells
            have hTl := lt_of_row hOd.blk
            have hXl : w.heap.size < W6.drew.heap.size := by have := hbel.size; have := (unhide HB4).size; have := unhide HTT; omega
            have f1 := frz hOd.blk 1
            have hOl : bi + 1 ≤ 100001 := by omega
            have HRR := hide (show W6.drew.ownsRow 0 9 1 (Value.slice pz (bi + 1) cz) (bi + 1) (((n.keys.take bi ++ [key])).map S) from by have q := hOd.rK; rwa [show ((n.keys.take bi ++ [key])).length = bi + 1 by have := hbkeys; simp <;> omega] at q)
            have HOD := hide hOd
            rcases unhide HKS with ⟨hk0, hk2, hk3⟩ | ⟨gk, hk2, r1, r2⟩
            · have hk1 : n.keys.length = 0 := by rw [hk0]; rfl
              have hb0 : bi = 0 := by have := hbkeys; omega
              have HK0 := hide hk0
              have HB0 := hide hb0
              rw [hk1, hk2, hk3] at c1
              subst hb0
              clear hk0 hk1 hNR hbel hOd hk2 hk3
              go_region_law (refine step_appN rfl (.tmp 68) (.tmp 72) rfl (Value.slice pz (0 + 1) cz) (0 + 1) ((n.keys.take 0 ++ [key])) (by rfl) (unhide HRR) (by rfl) ?_)
              all_goals (
                go_wp2
                go_meet
                refine ⟨(Value.slice pz (0 + 1) cz), ?_⟩
                have q := (unhide HOD).setK (m := 0 + 1) ((n.keys.take 0 ++ [key])) (by simp) (unhide HRR) (Only.refl _ _) (fun i hi => .inl hi)
                rw [show (n.keys.take 0 ++ [key] ++ n.keys.drop 0) = (n.keys.take 0 ++ [key]) by simp [unhide HK0]]
                exact q)
            · obtain ⟨xa, xb, xc, xd, xe, xf, q1, q2, q3, q4⟩ := hNR.na
              rw [hk2] at c1
              have q5 : ka = xa := by cases q1; rfl
              rw [← q5, hk2] at q4
              obtain ⟨Q, hif, hSTQ⟩ : ∃ Q, (if kc = bi then some (⟨gk, 0, none⟩ : Addr) else some ⟨gk, bi, none⟩) = some ⟨gk, Q, none⟩ ∧ Sts W6.drew (some ⟨gk, Q, none⟩) (n.keys.length - bi) (n.keys.drop bi) := ⟨if kc = bi then 0 else bi, by split <;> rfl, sts_dropq q4.ks bi r1⟩
              have HST := hide hSTQ
              clear hSTQ
              have r1' : bi ≤ kc := by have := hbkeys; omega
              have r1'' : (bi : Int) ≤ (kc : Int) := by omega
              have r3' : (bi : Int) ≤ (n.keys.length : Int) := by have := hbkeys; omega
              have r4' : n.keys.length ≤ kc := r1
              have hTd : ∀ (w3 : World), Only (fun k => ((Value.slice pz (bi + 1) cz)).ownBlock = some k) W6.drew w3 → w3.heap[T]? = some (.cells #[.bool false, .slice pz (bi + 1) cz, .slice none 0 0, .slice none 0 0] 25 (0, 0)) := fun w3 o3 => hOd.blk1 (not_T hOd.blk hOd.rK (by decide)) o3
              have HTD := hide hTd
              clear hNR hbel hOd q1 q2 q3 q4 hTd q5 hk2
              go_region_law (refine step_appS rfl (.tmp 68) (.tmp 72) rfl (Value.slice pz (bi + 1) cz) (bi + 1) ((n.keys.take bi ++ [key])) (by rfl) (unhide HRR) gk Q (n.keys.length - bi) (kc - bi) (n.keys.drop bi) (unhide HST) (by rfl) (by have := hbkeys; omega) ?_; intro p3 cap3 w3 r3 o3 n3; have e3 := unhide HTD w3 o3; have c6 : w3.cell? ⟨T, 1, none⟩ = some ((Value.slice pz (bi + 1) cz)) := cell_of_row w3 _ 1 _ 25 (0, 0) e3; have f6 := frz e3 1; have l6 := lt_of_row e3; have HG3 := hide ((unhide HOD).setK ((n.keys.take bi ++ [key]) ++ (n.keys.drop bi)) (by have := hbkeys; simp; omega) r3 o3 n3); clear r3 o3 n3 e3)
              all_goals (
                go_wp2
                go_meet
                first
                  | (refine ⟨Value.slice p3 (bi + 1 + (n.keys.length - bi)) cap3, ?_⟩; rw [show (n.keys.take bi ++ [key] ++ n.keys.drop bi) = (n.keys.take bi ++ [key]) ++ (n.keys.drop bi) by simp]; exact unhide HG3)
                  | (have q := unhide HG3; simp only [Nat.zero_add, List.nil_append] at q; exact ⟨_, q⟩))
          case rest =>
          obtain ⟨vk, hO1⟩ := hcut
          obtain ⟨pk, ck, rfl⟩ := owns_form hO1.rK
          have hbel : Below T w4 wc := by have := hO1.bel; rwa [unhide HTT] at this
          obtain ⟨c0, c1, c2, c3⟩ := unhide HBX _ hbel
          have hXl : w.heap.size < wc.heap.size := by have := hbel.size; have := (unhide HB4).size; have := unhide HTT; omega
          clear HO
          have HO := hide hO1
          clear hO1 hbel
          generalize hKK : (n.keys.take bi ++ [key] ++ n.keys.drop bi) = KK at *
          have HKK := hide hKK
          generalize hkkl : KK.length = kkl at *
          have HKL := hide hkkl
          clear hKK hkkl
          have hiA : ∃ gi, ia = some ⟨gi, 0, none⟩ := by
            have hI := (unhide HNR).rI
            have hne := (unhide HLI).1
            rcases hI.2 with ⟨q1, q2⟩ | ⟨gi, cp, cur, q1, q2⟩
            · exact absurd (List.eq_nil_of_length_eq_zero q2) hne
            · injection q1 with q3
              exact ⟨gi, q3⟩
          obtain ⟨gi, rfl⟩ := hiA
          have hcI := unhide HO
          have hiI : Ins wc (some ⟨gi, 0, none⟩) il n.kids := by
            have hb' : Below w4.heap.size w4 wc := hcI.bel
            obtain ⟨xa, xb, xc, xd, xe, xf, q1, q2, q3, q4⟩ := ((unhide HNR).below ((unhide HB4).trans (hb'.mono (unhide HB4).size))).na
            have q5 : (some ⟨gi, 0, none⟩ : Option Addr) = xc := by cases q3; rfl
            rw [← unhide HIL, q5]
            exact q4.is
          obtain ⟨e0, e1, e2, e3⟩ := hcI.cells
          have hTl := lt_of_row hcI.blk
          have HII := hide hiI
          have HKP := hide (fun (w1 : World) (o : Only (fun k => (Value.slice none 0 0).ownBlock = some k) wc w1) => hcI.blk1 (fun i hi => by cases hi) o)
          clear hcI hiI
          go_upto_region 21 with (first | (at_builtin; refine wp_appI rfl (.tmp 101) (.tmp 103) rfl (.slice none 0 0) 0 [] (by rfl) (unhide HO).rI gi 0 il ic n.kids (unhide HII) (by rfl) (by omega) ?_; intro p3 cap3 w3 r3 o3 n3; have e4 := unhide HKP w3 o3; have c6 : w3.cell? ⟨T, 3, none⟩ = some (.slice none 0 0) := cell_of_row w3 _ 3 _ 25 (0, 0) e4; have f6 := frz e4 3; have l6 := lt_of_row e4; have HG3 := hide ((unhide HO).setI (m := 0 + il) n.kids (by rw [unhide HIL]; omega) (by simpa using r3) o3 n3); clear r3 o3 n3 e4) | fail)
          simp only [Nat.zero_add] at HG3
          clear c0 c1 c2 c3 hXl e0 e1 e2 e3 hTl HO
          try clear c6
          try clear f6
          try clear l6
          have HO := HG3
          clear HG3 HII HKP
          generalize hW9 : w3.setCell ⟨T, 3, none⟩ (.slice p3 il cap3) = W9 at *
          clear hW9
          go_cut [] from 106 to 120 (fun wx => ∃ (r : Nat) (vq : Value), r < 1000 ∧ Ot w4 T false KK [] (n.kids ++ [((2 + 1000 * il + r : Nat) : Int)]) (.slice pk kkl ck) (.slice none 0 0) vq wx)
          case first =>
            have hOd := (unhide HO).below (Below.refl _ _).drew
            have hbel : Below T w4 W9.drew := by have := hOd.bel; rwa [unhide HTT] at this
            obtain ⟨c0, c1, c2, c3⟩ := unhide HBX _ hbel
            obtain ⟨d0, d1, d2⟩ := box3 (unhide G2) ((unhide HB4).trans ((show Below w4.heap.size w4 W9.drew by rw [unhide HTT]; exact hbel).mono (unhide HB4).size)) z2
            obtain ⟨e0, e1, e2, e3⟩ := hOd.cells
            have hTl := lt_of_row hOd.blk
            have hXl : w.heap.size < W9.drew.heap.size := by have := hbel.size; have := (unhide HB4).size; have := unhide HTT; omega
            have hCl : W1.heap.size < W9.drew.heap.size := by have := hbel.size; have := (unhide HB4).size; have := unhide HTT; omega
            have k1 : W9.cell? ⟨T, 3, none⟩ = some (.slice p3 il cap3) := e3
            have k2 : W9.cell? ⟨w.heap.size, 3, none⟩ = some (.slice (some ⟨gi, 0, none⟩) il ic) := c3
            have k3 : W9.cell? ⟨W1.heap.size, 2, none⟩ = some (I z) := d2
            have k4 : T < W9.heap.size := hTl
            have k5 : w.heap.size < W9.heap.size := hXl
            have k6 : W1.heap.size < W9.heap.size := hCl
            have HPK := hide ((pick_any z 1000 W9.drew hz (by omega)).mono (R' := fun e w' => ∃ v, e = .returned v ∧ ∃ r : Nat, r < 1000 ∧ v = I r ∧ w' = W9.drew) (fun e w' ⟨r, h1, h2, h3⟩ => ⟨_, h2, r, h1, rfl, h3⟩))
            have HTD := hide (fun (w3 : World) (o : Only (fun k => (Value.slice p3 il cap3).ownBlock = some k) W9.drew w3) => hOd.blk1 (not_T hOd.blk hOd.rI (by decide)) o)
            have HRR := hide (show W9.drew.ownsRow 0 3 1 (Value.slice p3 il cap3) il (n.kids.map fun z => I z) from by have q := hOd.rI; rwa [unhide HIL] at q)
            have HOD := hide hOd
            have hw1 : IntKind.i64.wrap (1000 * (il : Int)) = 1000 * (il : Int) := IntWalk.i64_in _ (by omega)
            have hw2 : IntKind.i64.wrap (2 + 1000 * (il : Int)) = 2 + 1000 * (il : Int) := IntWalk.i64_in _ (by omega)
            clear hOd hbel
            go_region_law (first
              | (refine step_callsE (f := 36) Tryz.func36 (by kernel_rfl) rfl rfl _ _ rfl #[I z, I 1000] (by first | (simp [Act.eval]; done) | (simp [Act.eval, Act.put]; done)) (fun v w' => ∃ r : Nat, r < 1000 ∧ v = I r ∧ w' = W9.drew) (unhide HPK) ?_; rintro vr wr' ⟨r, hr, rfl, rfl⟩; have hw3 : IntKind.i64.wrap (2 + 1000 * (il : Int) + (r : Int)) = 2 + 1000 * (il : Int) + (r : Int) := IntWalk.i64_in _ (by omega))
              | (refine step_pushI rfl (.tmp 107) (.tmp 117) rfl (.slice p3 il cap3) il (n.kids.map fun z => I z) (by rfl) W9.drew (2 + 1000 * (il : Int) + (r : Int)) (unhide HRR) (by rfl) (by omega) ?_; intro p4 cap4 w5 r3 o3 n3; have e4 := unhide HTD w5 o3; have c6 : w5.cell? ⟨T, 3, none⟩ = some (.slice p3 il cap3) := cell_of_row w5 _ 3 _ 25 (0, 0) e4; have f6 := frz e4 3; have l6 := lt_of_row e4; have HG3 := hide ((unhide HOD).setI (m := il + 1) (n.kids ++ [((2 + 1000 * il + r : Nat) : Int)]) (by rw [List.length_append, unhide HIL]; rfl) (by rw [List.map_append]; simpa using r3) o3 n3); clear r3 o3 n3 e4))
            all_goals (
              go_wp2
              go_meet
              exact ⟨r, _, hr, unhide HG3⟩)
          case rest =>
          obtain ⟨r, vi, hr1, hO1⟩ := hcut
          obtain ⟨pi, ci, rfl⟩ := owns_form hO1.rI
          have hbel : Below w4.heap.size w4 wc := hO1.bel
          obtain ⟨e0, e1, e2, e3⟩ := hO1.cells
          have hTl := lt_of_row hO1.blk
          have hz4 : W2.heap.size < w4.heap.size := Nat.lt_of_lt_of_le z3 (unhide HB4).size
          have g34 := (hbel.block _ hz4).trans (((unhide HB4).block _ z3).trans (unhide G3))
          have hRl := lt_of_row g34
          have G34 := hide g34
          have HO1 := hide hO1
          have HR1 := hide hr1
          clear hO1 hbel g34 HO hr1
          generalize hLL : n.kids ++ [((2 + 1000 * il + r : Nat) : Int)] = LL at *
          have HLL := hide hLL
          clear hLL
          generalize hlll : LL.length = lll at *
          clear hlll
          go_wp2_with (refine wp_st25 rfl (.tmp 6) (.tmp 120) rfl W2.heap.size (by rfl) false pk none pi kkl ck 0 0 lll ci (by rfl) _ rfl (unhide G34) ?_)
          have hr := setRow_heap _ _ _ #[.bool false, .slice pk kkl ck, .slice none 0 0, .slice pi lll ci] 25 _ (unhide G34)
          obtain ⟨x1, x2⟩ := unhide HKV
          have hXS := unhide HXS
          refine outN1 (p := 6) rfl (by rfl) (by rfl) hr (with_new (r := r) (hO := unhide HO1) (hr0 := unhide HR1) (hA := (unhide HA3).trans ((unhide HB4).mono (unhide HA3).size)) (hR := by omega) (hw := ?_) (hr := unhide G34) (hlf := unhide HLF) (hne := ?_))
          · unfold wth
            rw [x1, x2, unhide HLF, unhide HLS, unhide HAT, unhide HBW, unhide HIL, if_neg (by have := unhide HGT; unfold mor; simp only [Bool.false_eq_true, false_or, if_false]; omega), if_neg (by simp), unhide HKK, unhide HLL]
          · rw [← unhide HKK]; simp
      · go_wp2_with (refine wp_st25 rfl (.tmp 6) (.tmp 49) rfl W2.heap.size (by rfl) false ka va ia n.keys.length kc n.vals.length vc il ic (by rfl) _ rfl (unhide G3W) ?_)
        have hr := setRow_heap _ _ _ #[.bool false, .slice ka n.keys.length kc, .slice va n.vals.length vc, .slice ia il ic] 25 _ (unhide G3W)
        obtain ⟨x1, x2⟩ := unhide HKV
        have hXS := unhide HXS
        refine outN1 (p := 6) rfl (by rfl) (by rfl) hr (with_same (.inl ?_) (unhide HA3) (unhide HNR) (by omega) (unhide HB3) (unhide G3W) _ ?_)
        · rw [x1]; exact unhide HAT
        · rw [unhide HLF]
    · have HVK := hide (hlv hlf)
      have HLF := hide hlf
      rw [hlf] at c0 HZ3 G1
      clear hlv hli hlf
      cases at_
      · go_wp2_with fail
        refine (unhide HZ3).mono ?_
        rintro e w4 ⟨rfl, b4⟩
        have HB4 := hide ((unhide HB3).trans (b4.mono (unhide HB3).size))
        clear c0 c1 c2 c3 d0 d1 d2 b4 y1 y2
        obtain ⟨c0, c1, c2, c3⟩ := box4 (unhide G1) (unhide HB4) z1
        have y1 : w.heap.size < w4.heap.size := Nat.lt_of_lt_of_le z1 (unhide HB4).size
        have G34 := hide (((unhide HB4).block _ z3).trans (unhide G3))
        by_cases hgt : most < ls + (2 + key.length + val.length)
        · have hg' : decide ((most : Int) < (ls : Int) + (2 + (key.length : Int) + (val.length : Int))) = true := by rw [decide_eq_true_eq]; omega
          go_wp2_with (refine wp_st25 rfl (.tmp 6) (.tmp 49) rfl W2.heap.size (by rfl) true ka va ia n.keys.length kc n.vals.length vc il ic (by rfl) _ rfl (unhide G34) ?_)
          have hr := setRow_heap _ _ _ #[.bool true, .slice ka n.keys.length kc, .slice va n.vals.length vc, .slice ia il ic] 25 _ (unhide G34)
          obtain ⟨x1, x2⟩ := unhide HKV
          have hXS := unhide HXS
          refine outN1 (p := 6) rfl (by rfl) (by rfl) hr (with_same (.inr ?_) (unhide HA3) (unhide HNR) (by omega) (unhide HB4) (unhide G34) _ ?_)
          · rw [x1, x2, unhide HLF, unhide HLS]
            unfold mor
            rw [if_pos rfl]
            exact hgt
          · rw [unhide HLF]
        · have hg' : decide ((most : Int) < (ls : Int) + (2 + (key.length : Int) + (val.length : Int))) = false := by rw [decide_eq_false_iff_not]; omega
          have hq := heap_alloc_new w4 (.cells #[.bool false, .slice none 0 0, .slice none 0 0, .slice none 0 0] 25)
          have hb5 := (Below.refl w4.heap.size w4).alloc (Nat.le_refl _) (.cells #[.bool false, .slice none 0 0, .slice none 0 0, .slice none 0 0] 25)
          have ht := setRow_heap _ _ _ #[.bool true, .slice none 0 0, .slice none 0 0, .slice none 0 0] 25 _ hq
          have hb6 := (setRow_only (w4.alloc (.cells #[.bool false, .slice none 0 0, .slice none 0 0, .slice none 0 0] 25)) w4.heap.size #[.bool true, .slice none 0 0, .slice none 0 0, .slice none 0 0]).below hb5 hb5.size (fun k e => by omega)
          have HQ := hide hq
          clear hq hb5
          generalize hW5 : (w4.alloc (.cells #[.bool false, .slice none 0 0, .slice none 0 0, .slice none 0 0] 25)).setRow w4.heap.size #[.bool true, .slice none 0 0, .slice none 0 0, .slice none 0 0] = W5 at ht hb6
          have HW5 := hide hW5
          have hO : Ot w4 w4.heap.size true [] [] [] (.slice none 0 0) (.slice none 0 0) (.slice none 0 0) W5 :=
            ⟨ht, owns_nil _ _ _, owns_nil _ _ _, owns_nil _ _ _, hb6, Nat.le_refl _, (fun i hi => nomatch hi), (fun i hi => nomatch hi), (fun i hi => nomatch hi), (fun i hi => nomatch hi)⟩
          have HO := hide hO
          clear hW5 ht hb6 hO
          have HSR := hide (fun W (q : Below w4.heap.size w4 W) => (unhide HNR).below ((unhide HB4).trans (q.mono (unhide HB4).size)))
          have HBX := hide (fun W (q : Below w4.heap.size w4 W) => box4 (unhide G1) ((unhide HB4).trans (q.mono (unhide HB4).size)) z1)
          have HGT := hide hgt
          clear G34 HZ3 G3W hgt
          go_upto_region 12 with (first | (refine wp_st25 rfl (.tmp 12) (.tmp 52) rfl w4.heap.size (by rfl) true none none none 0 0 0 0 0 0 (by rfl) _ rfl (unhide HQ) ?_; rw [unhide HW5]) | fail)
          clear HQ HW5 c0 c1 c2 c3 y1
          have HKS := hide (row_or (unhide HNR).rK (fun q => ((unhide HNR).nl q).1))
          have HVS := hide (row_or (unhide HNR).rV (fun q => ((unhide HNR).nl (List.eq_nil_of_length_eq_zero (by rw [← unhide HVK, q]; rfl))).2))
          have hbkeys : bi ≤ n.keys.length := hbl
          have hbvals : bi ≤ n.vals.length := by rw [unhide HVK]; exact hbl
          generalize hTT : w4.heap.size = T at *
          have HTT := hide hTT
          clear hTT hbl
          simp only [Act.put]
          go_cut [] from 53 to 120 (fun wx => ∃ vk, Ot w4 T true (n.keys.take bi) [] [] vk (.slice none 0 0) (.slice none 0 0) wx)
          case first =>
            have hOd := (unhide HO).below (Below.refl _ _).drew
            have hbel : Below T w4 W5.drew := by have := hOd.bel; rwa [unhide HTT] at this
            obtain ⟨c0, c1, c2, c3⟩ := unhide HBX _ hbel
            have hNR := unhide HSR _ hbel
            obtain ⟨e0, e1, e2, e3⟩ := hOd.cells
            have hTl := lt_of_row hOd.blk
            have hXl : w.heap.size < W5.drew.heap.size := by have := hbel.size; have := (unhide HB4).size; have := unhide HTT; omega
            have f1 := frz hOd.blk 1
            have hOl : 0 ≤ 100001 := by omega
            have HRR := hide (show W5.drew.ownsRow 0 9 1 (Value.slice none 0 0) (0) ((([] : List Bs)).map S) from by have q := hOd.rK; rwa [show (([] : List Bs)).length = 0 by have := hbkeys; simp <;> omega] at q)
            have HOD := hide hOd
            rcases unhide HKS with ⟨hk0, hk2, hk3⟩ | ⟨gk, hk2, r1, r2⟩
            · have hk1 : n.keys.length = 0 := by rw [hk0]; rfl
              have hb0 : bi = 0 := by have := hbkeys; omega
              have HK0 := hide hk0
              have HB0 := hide hb0
              rw [hk1, hk2, hk3] at c1
              subst hb0
              clear hk0 hk1 hNR hbel hOd hk2 hk3
              go_region_law (refine step_appN rfl (.tmp 54) (.tmp 58) rfl (Value.slice none 0 0) (0) (([] : List Bs)) (by rfl) (unhide HRR) (by rfl) ?_)
              all_goals (
                go_wp2
                go_meet
                refine ⟨(Value.slice none 0 0), ?_⟩
                have q := (unhide HOD).setK (m := 0) (([] : List Bs)) (by simp) (unhide HRR) (Only.refl _ _) (fun i hi => .inl hi)
                rw [show (n.keys.take 0) = ([] : List Bs) by simp [unhide HK0]]
                exact q)
            · obtain ⟨xa, xb, xc, xd, xe, xf, q1, q2, q3, q4⟩ := hNR.na
              rw [hk2] at c1
              have q5 : ka = xa := by cases q1; rfl
              rw [← q5, hk2] at q4
              have HST := hide (sts_take q4.ks hbkeys)
              have r1' : bi ≤ kc := by have := hbkeys; omega
              have r1'' : (bi : Int) ≤ (kc : Int) := by omega
              have r3' : (bi : Int) ≤ (n.keys.length : Int) := by have := hbkeys; omega
              have r4' : n.keys.length ≤ kc := r1
              have hTd : ∀ (w3 : World), Only (fun k => ((Value.slice none 0 0)).ownBlock = some k) W5.drew w3 → w3.heap[T]? = some (.cells #[.bool true, .slice none 0 0, .slice none 0 0, .slice none 0 0] 25 (0, 0)) := fun w3 o3 => hOd.blk1 (not_T hOd.blk hOd.rK (by decide)) o3
              have HTD := hide hTd
              clear hNR hbel hOd q1 q2 q3 q4 hTd q5 hk2
              go_region_law (refine step_appS rfl (.tmp 54) (.tmp 58) rfl (Value.slice none 0 0) (0) (([] : List Bs)) (by rfl) (unhide HRR) gk 0 bi kc (n.keys.take bi) (unhide HST) (by rfl) (by have := hbkeys; omega) ?_; intro p3 cap3 w3 r3 o3 n3; have e3 := unhide HTD w3 o3; have c6 : w3.cell? ⟨T, 1, none⟩ = some ((Value.slice none 0 0)) := cell_of_row w3 _ 1 _ 25 (0, 0) e3; have f6 := frz e3 1; have l6 := lt_of_row e3; have HG3 := hide ((unhide HOD).setK (([] : List Bs) ++ (n.keys.take bi)) (by have := hbkeys; simp; omega) r3 o3 n3); clear r3 o3 n3 e3)
              all_goals (
                go_wp2
                go_meet
                first
                  | (refine ⟨Value.slice p3 (0 + bi) cap3, ?_⟩; rw [show (n.keys.take bi) = ([] : List Bs) ++ (n.keys.take bi) by simp]; exact unhide HG3)
                  | (have q := unhide HG3; simp only [Nat.zero_add, List.nil_append] at q; exact ⟨_, q⟩))
          case rest =>
          obtain ⟨vq, hO1⟩ := hcut
          have hlt : (n.keys.take bi).length = bi := by rw [List.length_take]; have := hbkeys; omega
          have hr1 := hO1.rK
          rw [hlt] at hr1
          obtain ⟨pq, cq, rfl⟩ := owns_form hr1
          have hbel : Below T w4 wc := by have := hO1.bel; rwa [unhide HTT] at this
          obtain ⟨c0, c1, c2, c3⟩ := unhide HBX _ hbel
          obtain ⟨e0, e1, e2, e3⟩ := hO1.cells
          have hTl := lt_of_row hO1.blk
          have hXl : w.heap.size < wc.heap.size := by have := hbel.size; have := (unhide HB4).size; have := unhide HTT; omega
          have HR := hide hr1
          have HO1 := hide hO1
          clear hO1 hr1 hbel HO hlt
          go_upto_region 14 with (first | (at_builtin; refine push_own 22 9 _ 1 16 Tryz.underlying22 info9 rfl (by decide) rfl (.tmp 62) (.tmp 64) rfl (.slice pq bi cq) bi ((n.keys.take bi).map S) (by rfl) wc (unhide HR) [S key] rfl (by intro u hu; simp at hu; subst hu; rfl) (by rfl) (by have := hbkeys; omega) (by have := hbkeys; omega) ?_; intro p3 cap3 w3 r3 o3 n3; have e3 := (unhide HO1).blk1 (not_T (unhide HO1).blk (unhide HO1).rK (by decide)) o3; have c6 : w3.cell? ⟨T, 1, none⟩ = some (.slice pq bi cq) := cell_of_row w3 _ 1 _ 25 (0, 0) e3; have f6 := frz e3 1; have l6 := lt_of_row e3; have HG3 := hide ((unhide HO1).setK (m := bi + 1) (n.keys.take bi ++ [key]) (by have := hbkeys; simp; omega) (by simpa using r3) o3 n3); clear r3 o3 n3 e3) | fail)
          clear HO1 HR c0 c1 c2 c3 e0 e1 e2 e3 hTl hXl
          try clear c6
          try clear f6
          try clear l6
          generalize hWn : w3.setCell ⟨T, 1, none⟩ (.slice p3 (bi + 1) cap3) = W6 at *
          clear hWn
          generalize hpz : p3 = pz at *
          generalize hcz : cap3 = cz at *
          clear hpz hcz
          have HO := HG3
          clear HG3
          go_cut [] from 67 to 120 (fun wx => ∃ vq, Ot w4 T true (n.keys.take bi ++ [key] ++ n.keys.drop bi) [] [] vq (.slice none 0 0) (.slice none 0 0) wx)
          case first =>
            have hOd := (unhide HO).below (Below.refl _ _).drew
            have hbel : Below T w4 W6.drew := by have := hOd.bel; rwa [unhide HTT] at this
            obtain ⟨c0, c1, c2, c3⟩ := unhide HBX _ hbel
            have hNR := unhide HSR _ hbel
            obtain ⟨e0, e1, e2, e3⟩ := hOd.cells
            have hTl := lt_of_row hOd.blk
            have hXl : w.heap.size < W6.drew.heap.size := by have := hbel.size; have := (unhide HB4).size; have := unhide HTT; omega
            have f1 := frz hOd.blk 1
            have hOl : bi + 1 ≤ 100001 := by omega
            have HRR := hide (show W6.drew.ownsRow 0 9 1 (Value.slice pz (bi + 1) cz) (bi + 1) (((n.keys.take bi ++ [key])).map S) from by have q := hOd.rK; rwa [show ((n.keys.take bi ++ [key])).length = bi + 1 by have := hbkeys; simp <;> omega] at q)
            have HOD := hide hOd
            rcases unhide HKS with ⟨hk0, hk2, hk3⟩ | ⟨gk, hk2, r1, r2⟩
            · have hk1 : n.keys.length = 0 := by rw [hk0]; rfl
              have hb0 : bi = 0 := by have := hbkeys; omega
              have HK0 := hide hk0
              have HB0 := hide hb0
              rw [hk1, hk2, hk3] at c1
              subst hb0
              clear hk0 hk1 hNR hbel hOd hk2 hk3
              go_region_law (refine step_appN rfl (.tmp 68) (.tmp 72) rfl (Value.slice pz (0 + 1) cz) (0 + 1) ((n.keys.take 0 ++ [key])) (by rfl) (unhide HRR) (by rfl) ?_)
              all_goals (
                go_wp2
                go_meet
                refine ⟨(Value.slice pz (0 + 1) cz), ?_⟩
                have q := (unhide HOD).setK (m := 0 + 1) ((n.keys.take 0 ++ [key])) (by simp) (unhide HRR) (Only.refl _ _) (fun i hi => .inl hi)
                rw [show (n.keys.take 0 ++ [key] ++ n.keys.drop 0) = (n.keys.take 0 ++ [key]) by simp [unhide HK0]]
                exact q)
            · obtain ⟨xa, xb, xc, xd, xe, xf, q1, q2, q3, q4⟩ := hNR.na
              rw [hk2] at c1
              have q5 : ka = xa := by cases q1; rfl
              rw [← q5, hk2] at q4
              obtain ⟨Q, hif, hSTQ⟩ : ∃ Q, (if kc = bi then some (⟨gk, 0, none⟩ : Addr) else some ⟨gk, bi, none⟩) = some ⟨gk, Q, none⟩ ∧ Sts W6.drew (some ⟨gk, Q, none⟩) (n.keys.length - bi) (n.keys.drop bi) := ⟨if kc = bi then 0 else bi, by split <;> rfl, sts_dropq q4.ks bi r1⟩
              have HST := hide hSTQ
              clear hSTQ
              have r1' : bi ≤ kc := by have := hbkeys; omega
              have r1'' : (bi : Int) ≤ (kc : Int) := by omega
              have r3' : (bi : Int) ≤ (n.keys.length : Int) := by have := hbkeys; omega
              have r4' : n.keys.length ≤ kc := r1
              have hTd : ∀ (w3 : World), Only (fun k => ((Value.slice pz (bi + 1) cz)).ownBlock = some k) W6.drew w3 → w3.heap[T]? = some (.cells #[.bool true, .slice pz (bi + 1) cz, .slice none 0 0, .slice none 0 0] 25 (0, 0)) := fun w3 o3 => hOd.blk1 (not_T hOd.blk hOd.rK (by decide)) o3
              have HTD := hide hTd
              clear hNR hbel hOd q1 q2 q3 q4 hTd q5 hk2
              go_region_law (refine step_appS rfl (.tmp 68) (.tmp 72) rfl (Value.slice pz (bi + 1) cz) (bi + 1) ((n.keys.take bi ++ [key])) (by rfl) (unhide HRR) gk Q (n.keys.length - bi) (kc - bi) (n.keys.drop bi) (unhide HST) (by rfl) (by have := hbkeys; omega) ?_; intro p3 cap3 w3 r3 o3 n3; have e3 := unhide HTD w3 o3; have c6 : w3.cell? ⟨T, 1, none⟩ = some ((Value.slice pz (bi + 1) cz)) := cell_of_row w3 _ 1 _ 25 (0, 0) e3; have f6 := frz e3 1; have l6 := lt_of_row e3; have HG3 := hide ((unhide HOD).setK ((n.keys.take bi ++ [key]) ++ (n.keys.drop bi)) (by have := hbkeys; simp; omega) r3 o3 n3); clear r3 o3 n3 e3)
              all_goals (
                go_wp2
                go_meet
                first
                  | (refine ⟨Value.slice p3 (bi + 1 + (n.keys.length - bi)) cap3, ?_⟩; rw [show (n.keys.take bi ++ [key] ++ n.keys.drop bi) = (n.keys.take bi ++ [key]) ++ (n.keys.drop bi) by simp]; exact unhide HG3)
                  | (have q := unhide HG3; simp only [Nat.zero_add, List.nil_append] at q; exact ⟨_, q⟩))
          case rest =>
          obtain ⟨vk, hO1⟩ := hcut
          obtain ⟨pk, ck, rfl⟩ := owns_form hO1.rK
          have hbel : Below T w4 wc := by have := hO1.bel; rwa [unhide HTT] at this
          obtain ⟨c0, c1, c2, c3⟩ := unhide HBX _ hbel
          have hXl : w.heap.size < wc.heap.size := by have := hbel.size; have := (unhide HB4).size; have := unhide HTT; omega
          clear HO
          have HO := hide hO1
          clear hO1 hbel
          generalize hKK : (n.keys.take bi ++ [key] ++ n.keys.drop bi) = KK at *
          have HKK := hide hKK
          generalize hkkl : KK.length = kkl at *
          have HKL := hide hkkl
          clear hKK hkkl
          go_upto_region 16 with fail
          clear c0 c1 c2 c3 hXl
          generalize hW7 : wc = W7 at *
          clear hW7
          go_cut [] from 77 to 120 (fun wx => ∃ vq, Ot w4 T true KK (n.vals.take bi) [] (.slice pk kkl ck) vq (.slice none 0 0) wx)
          case first =>
            have hOd := (unhide HO).below (Below.refl _ _).drew
            have hbel : Below T w4 W7.drew := by have := hOd.bel; rwa [unhide HTT] at this
            obtain ⟨c0, c1, c2, c3⟩ := unhide HBX _ hbel
            have hNR := unhide HSR _ hbel
            obtain ⟨e0, e1, e2, e3⟩ := hOd.cells
            have hTl := lt_of_row hOd.blk
            have hXl : w.heap.size < W7.drew.heap.size := by have := hbel.size; have := (unhide HB4).size; have := unhide HTT; omega
            have f1 := frz hOd.blk 2
            have hOl : 0 ≤ 100001 := by omega
            have HRR := hide (show W7.drew.ownsRow 0 9 1 (Value.slice none 0 0) (0) ((([] : List Bs)).map S) from by have q := hOd.rV; rwa [show (([] : List Bs)).length = 0 by have := hbvals; simp <;> omega] at q)
            have HOD := hide hOd
            rcases unhide HVS with ⟨hk0, hk2, hk3⟩ | ⟨gk, hk2, r1, r2⟩
            · have hk1 : n.vals.length = 0 := by rw [hk0]; rfl
              have hb0 : bi = 0 := by have := hbvals; omega
              have HK0 := hide hk0
              have HB0 := hide hb0
              rw [hk1, hk2, hk3] at c2
              subst hb0
              clear hk0 hk1 hNR hbel hOd hk2 hk3
              go_region_law (refine step_appN rfl (.tmp 78) (.tmp 82) rfl (Value.slice none 0 0) (0) (([] : List Bs)) (by rfl) (unhide HRR) (by rfl) ?_)
              all_goals (
                go_wp2
                go_meet
                refine ⟨(Value.slice none 0 0), ?_⟩
                have q := (unhide HOD).setV (m := 0) (([] : List Bs)) (by simp) (unhide HRR) (Only.refl _ _) (fun i hi => .inl hi)
                rw [show (n.vals.take 0) = ([] : List Bs) by simp [unhide HK0]]
                exact q)
            · obtain ⟨xa, xb, xc, xd, xe, xf, q1, q2, q3, q4⟩ := hNR.na
              rw [hk2] at c2
              have q5 : va = xb := by cases q2; rfl
              rw [← q5, hk2] at q4
              have HST := hide (sts_take q4.vs hbvals)
              have r1' : bi ≤ vc := by have := hbvals; omega
              have r1'' : (bi : Int) ≤ (vc : Int) := by omega
              have r3' : (bi : Int) ≤ (n.vals.length : Int) := by have := hbvals; omega
              have r4' : n.vals.length ≤ vc := r1
              have hTd : ∀ (w3 : World), Only (fun k => ((Value.slice none 0 0)).ownBlock = some k) W7.drew w3 → w3.heap[T]? = some (.cells #[.bool true, .slice pk kkl ck, .slice none 0 0, .slice none 0 0] 25 (0, 0)) := fun w3 o3 => hOd.blk1 (not_T hOd.blk hOd.rV (by decide)) o3
              have HTD := hide hTd
              clear hNR hbel hOd q1 q2 q3 q4 hTd q5 hk2
              go_region_law (refine step_appS rfl (.tmp 78) (.tmp 82) rfl (Value.slice none 0 0) (0) (([] : List Bs)) (by rfl) (unhide HRR) gk 0 bi vc (n.vals.take bi) (unhide HST) (by rfl) (by have := hbvals; omega) ?_; intro p3 cap3 w3 r3 o3 n3; have e3 := unhide HTD w3 o3; have c6 : w3.cell? ⟨T, 2, none⟩ = some ((Value.slice none 0 0)) := cell_of_row w3 _ 2 _ 25 (0, 0) e3; have f6 := frz e3 2; have l6 := lt_of_row e3; have HG3 := hide ((unhide HOD).setV (([] : List Bs) ++ (n.vals.take bi)) (by have := hbvals; simp; omega) r3 o3 n3); clear r3 o3 n3 e3)
              all_goals (
                go_wp2
                go_meet
                first
                  | (refine ⟨Value.slice p3 (0 + bi) cap3, ?_⟩; rw [show (n.vals.take bi) = ([] : List Bs) ++ (n.vals.take bi) by simp]; exact unhide HG3)
                  | (have q := unhide HG3; simp only [Nat.zero_add, List.nil_append] at q; exact ⟨_, q⟩))
          case rest =>
          obtain ⟨vq, hO1⟩ := hcut
          have hlt : (n.vals.take bi).length = bi := by rw [List.length_take]; have := hbvals; omega
          have hr1 := hO1.rV
          rw [hlt] at hr1
          obtain ⟨pq, cq, rfl⟩ := owns_form hr1
          have hbel : Below T w4 wc := by have := hO1.bel; rwa [unhide HTT] at this
          obtain ⟨c0, c1, c2, c3⟩ := unhide HBX _ hbel
          obtain ⟨e0, e1, e2, e3⟩ := hO1.cells
          have hTl := lt_of_row hO1.blk
          have hXl : w.heap.size < wc.heap.size := by have := hbel.size; have := (unhide HB4).size; have := unhide HTT; omega
          have HR := hide hr1
          have HO1 := hide hO1
          clear hO1 hr1 hbel HO hlt
          go_upto_region 18 with (first | (at_builtin; refine push_own 22 9 _ 1 16 Tryz.underlying22 info9 rfl (by decide) rfl (.tmp 86) (.tmp 88) rfl (.slice pq bi cq) bi ((n.vals.take bi).map S) (by rfl) wc (unhide HR) [S val] rfl (by intro u hu; simp at hu; subst hu; rfl) (by rfl) (by have := hbvals; omega) (by have := hbvals; omega) ?_; intro p3 cap3 w3 r3 o3 n3; have e3 := (unhide HO1).blk1 (not_T (unhide HO1).blk (unhide HO1).rV (by decide)) o3; have c6 : w3.cell? ⟨T, 2, none⟩ = some (.slice pq bi cq) := cell_of_row w3 _ 2 _ 25 (0, 0) e3; have f6 := frz e3 2; have l6 := lt_of_row e3; have HG3 := hide ((unhide HO1).setV (m := bi + 1) (n.vals.take bi ++ [val]) (by have := hbvals; simp; omega) (by simpa using r3) o3 n3); clear r3 o3 n3 e3) | fail)
          clear HO1 HR c0 c1 c2 c3 e0 e1 e2 e3 hTl hXl
          try clear c6
          try clear f6
          try clear l6
          generalize hWn : w3.setCell ⟨T, 2, none⟩ (.slice p3 (bi + 1) cap3) = W8 at *
          clear hWn
          generalize hpz : p3 = pz at *
          generalize hcz : cap3 = cz at *
          clear hpz hcz
          have HO := HG3
          clear HG3
          go_cut [] from 91 to 120 (fun wx => ∃ vq, Ot w4 T true KK (n.vals.take bi ++ [val] ++ n.vals.drop bi) [] (.slice pk kkl ck) vq (.slice none 0 0) wx)
          case first =>
            have hOd := (unhide HO).below (Below.refl _ _).drew
            have hbel : Below T w4 W8.drew := by have := hOd.bel; rwa [unhide HTT] at this
            obtain ⟨c0, c1, c2, c3⟩ := unhide HBX _ hbel
            have hNR := unhide HSR _ hbel
            obtain ⟨e0, e1, e2, e3⟩ := hOd.cells
            have hTl := lt_of_row hOd.blk
            have hXl : w.heap.size < W8.drew.heap.size := by have := hbel.size; have := (unhide HB4).size; have := unhide HTT; omega
            have f1 := frz hOd.blk 2
            have hOl : bi + 1 ≤ 100001 := by omega
            have HRR := hide (show W8.drew.ownsRow 0 9 1 (Value.slice pz (bi + 1) cz) (bi + 1) (((n.vals.take bi ++ [val])).map S) from by have q := hOd.rV; rwa [show ((n.vals.take bi ++ [val])).length = bi + 1 by have := hbvals; simp <;> omega] at q)
            have HOD := hide hOd
            rcases unhide HVS with ⟨hk0, hk2, hk3⟩ | ⟨gk, hk2, r1, r2⟩
            · have hk1 : n.vals.length = 0 := by rw [hk0]; rfl
              have hb0 : bi = 0 := by have := hbvals; omega
              have HK0 := hide hk0
              have HB0 := hide hb0
              rw [hk1, hk2, hk3] at c2
              subst hb0
              clear hk0 hk1 hNR hbel hOd hk2 hk3
              go_region_law (refine step_appN rfl (.tmp 92) (.tmp 96) rfl (Value.slice pz (0 + 1) cz) (0 + 1) ((n.vals.take 0 ++ [val])) (by rfl) (unhide HRR) (by rfl) ?_)
              all_goals (
                go_wp2
                go_meet
                refine ⟨(Value.slice pz (0 + 1) cz), ?_⟩
                have q := (unhide HOD).setV (m := 0 + 1) ((n.vals.take 0 ++ [val])) (by simp) (unhide HRR) (Only.refl _ _) (fun i hi => .inl hi)
                rw [show (n.vals.take 0 ++ [val] ++ n.vals.drop 0) = (n.vals.take 0 ++ [val]) by simp [unhide HK0]]
                exact q)
            · obtain ⟨xa, xb, xc, xd, xe, xf, q1, q2, q3, q4⟩ := hNR.na
              rw [hk2] at c2
              have q5 : va = xb := by cases q2; rfl
              rw [← q5, hk2] at q4
              obtain ⟨Q, hif, hSTQ⟩ : ∃ Q, (if vc = bi then some (⟨gk, 0, none⟩ : Addr) else some ⟨gk, bi, none⟩) = some ⟨gk, Q, none⟩ ∧ Sts W8.drew (some ⟨gk, Q, none⟩) (n.vals.length - bi) (n.vals.drop bi) := ⟨if vc = bi then 0 else bi, by split <;> rfl, sts_dropq q4.vs bi r1⟩
              have HST := hide hSTQ
              clear hSTQ
              have r1' : bi ≤ vc := by have := hbvals; omega
              have r1'' : (bi : Int) ≤ (vc : Int) := by omega
              have r3' : (bi : Int) ≤ (n.vals.length : Int) := by have := hbvals; omega
              have r4' : n.vals.length ≤ vc := r1
              have hTd : ∀ (w3 : World), Only (fun k => ((Value.slice pz (bi + 1) cz)).ownBlock = some k) W8.drew w3 → w3.heap[T]? = some (.cells #[.bool true, .slice pk kkl ck, .slice pz (bi + 1) cz, .slice none 0 0] 25 (0, 0)) := fun w3 o3 => hOd.blk1 (not_T hOd.blk hOd.rV (by decide)) o3
              have HTD := hide hTd
              clear hNR hbel hOd q1 q2 q3 q4 hTd q5 hk2
              go_region_law (refine step_appS rfl (.tmp 92) (.tmp 96) rfl (Value.slice pz (bi + 1) cz) (bi + 1) ((n.vals.take bi ++ [val])) (by rfl) (unhide HRR) gk Q (n.vals.length - bi) (vc - bi) (n.vals.drop bi) (unhide HST) (by rfl) (by have := hbvals; omega) ?_; intro p3 cap3 w3 r3 o3 n3; have e3 := unhide HTD w3 o3; have c6 : w3.cell? ⟨T, 2, none⟩ = some ((Value.slice pz (bi + 1) cz)) := cell_of_row w3 _ 2 _ 25 (0, 0) e3; have f6 := frz e3 2; have l6 := lt_of_row e3; have HG3 := hide ((unhide HOD).setV ((n.vals.take bi ++ [val]) ++ (n.vals.drop bi)) (by have := hbvals; simp; omega) r3 o3 n3); clear r3 o3 n3 e3)
              all_goals (
                go_wp2
                go_meet
                first
                  | (refine ⟨Value.slice p3 (bi + 1 + (n.vals.length - bi)) cap3, ?_⟩; rw [show (n.vals.take bi ++ [val] ++ n.vals.drop bi) = (n.vals.take bi ++ [val]) ++ (n.vals.drop bi) by simp]; exact unhide HG3)
                  | (have q := unhide HG3; simp only [Nat.zero_add, List.nil_append] at q; exact ⟨_, q⟩))
          case rest =>
          obtain ⟨vv, hO1⟩ := hcut
          obtain ⟨pv, cv, rfl⟩ := owns_form hO1.rV
          have hbel : Below w4.heap.size w4 wc := hO1.bel
          obtain ⟨e0, e1, e2, e3⟩ := hO1.cells
          have hTl := lt_of_row hO1.blk
          have hz4 : W2.heap.size < w4.heap.size := Nat.lt_of_lt_of_le z3 (unhide HB4).size
          have g34 := (hbel.block _ hz4).trans (((unhide HB4).block _ z3).trans (unhide G3))
          have hRl := lt_of_row g34
          have G34 := hide g34
          have HO1 := hide hO1
          clear hO1 hbel g34 HO
          generalize hVV : (n.vals.take bi ++ [val] ++ n.vals.drop bi) = VV at *
          have HVV := hide hVV
          clear hVV
          generalize hvvl : VV.length = vvl at *
          clear hvvl
          go_wp2_with (refine wp_st25 rfl (.tmp 6) (.tmp 99) rfl W2.heap.size (by rfl) true pk pv none kkl ck vvl cv 0 0 (by rfl) _ rfl (unhide G34) ?_)
          have hr := setRow_heap _ _ _ #[.bool true, .slice pk kkl ck, .slice pv vvl cv, .slice none 0 0] 25 _ (unhide G34)
          obtain ⟨x1, x2⟩ := unhide HKV
          have hXS := unhide HXS
          refine outN1 (p := 6) rfl (by rfl) (by rfl) hr (with_new (r := 0) (hO := unhide HO1) (hA := (unhide HA3).trans ((unhide HB4).mono (unhide HA3).size)) (hR := by omega) (hw := ?_) (hr := unhide G34) (hlf := unhide HLF) (hne := ?_))
          · unfold wth
            rw [x1, x2, unhide HLF, unhide HLS, unhide HAT, unhide HBW, if_neg (by have := unhide HGT; unfold mor; simp only [Bool.false_eq_true, false_or, if_true]; omega), if_pos rfl, unhide HKK, unhide HVV]
          · rw [← unhide HKK]; simp
      · go_wp2_with (refine wp_st25 rfl (.tmp 6) (.tmp 49) rfl W2.heap.size (by rfl) true ka va ia n.keys.length kc n.vals.length vc il ic (by rfl) _ rfl (unhide G3W) ?_)
        have hr := setRow_heap _ _ _ #[.bool true, .slice ka n.keys.length kc, .slice va n.vals.length vc, .slice ia il ic] 25 _ (unhide G3W)
        obtain ⟨x1, x2⟩ := unhide HKV
        have hXS := unhide HXS
        refine outN1 (p := 6) rfl (by rfl) (by rfl) hr (with_same (.inl ?_) (unhide HA3) (unhide HNR) (by omega) (unhide HB3) (unhide G3W) _ ?_)
        · rw [x1]; exact unhide HAT
        · rw [unhide HLF]
end Go.Proofs.YtllialbdofklgaaGreatDoor
