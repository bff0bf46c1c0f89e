import Derived.Test.YtllialbdofklgaaGreatDoorZzac
import Derived.Test.YtllialbdofklgaaGreatDoorNdp
import Derived.Test.YtllialbdofklgaaGreatDoorZzat
namespace Go.Proofs.YtllialbdofklgaaGreatDoor
open Go.RowKit
set_option maxHeartbeats 4000000
set_option maxRecDepth 8000
theorem find_any (n : Nd) (ka va ia : Option Addr) (kc vc ic : Nat) (key : Bs) (w : World) (h : NA n ka va ia w) (hb : NB n) :
    Calls Tryz.prog 25 #[nda n ka va ia kc vc ic, S key] w fun e w' => e = .returned (.tuple #[I (fnd n key).1, .bool (fnd n key).2]) ∧ Below w.heap.size w w' := by
  obtain ⟨lf, ks, vs, is⟩ := n
  have hA := (Below.refl w.heap.size w).alloc (Nat.le_refl _) (.cells #[.bool lf, .slice ka ks.length kc, .slice va vs.length vc, .slice ia is.length ic] 25)
  have hg := heap_alloc_new w (.cells #[.bool lf, .slice ka ks.length kc, .slice va vs.length vc, .slice ia is.length ic] 25)
  have hz := lt_of_row hg
  have hks := (h.below hA).ks
  have H1 := hide (rise_any ka ks.length kc ks _ hks hb.k)
  have hkl := hb.k
  simp only at hkl hks
  have HA := hide hA
  have HK := hide hks
  have HG := hide hg
  clear h hA hks hg hb
  have HF := hide (show fnd ⟨lf, ks, vs, is⟩ key = if up ks then (if lf then (blw ks key, decide (blw ks key < ks.length ∧ ks.getD (blw ks key) [] = key)) else (if decide (blw ks key < ks.length ∧ ks.getD (blw ks key) [] = key) then blw ks key + 1 else blw ks key, false)) else (0, false) from rfl)
  generalize fnd ⟨lf, ks, vs, is⟩ key = F at *
  unfold nda
  simp only
  cases hu : up ks
  · rw [hu] at H1 HF
    clear hu
    go_enter Tryz.func25, Tryz.ntmps25
    go_wp2_with fail
    refine (unhide H1).mono ?_
    rintro e w1 ⟨rfl, q, rfl⟩
    have HB := hide (bel_q (unhide HA) q)
    go_wp2
    go_ret2
    have hf := unhide HF
    simp only [Bool.false_eq_true, if_false] at hf
    subst hf
    exact ⟨rfl, unhide HB⟩
  · rw [hu] at H1 HF
    rw [if_pos rfl] at HF
    clear hu
    have HL := hide (blw_le ks key)
    have HLT := hide (blw_lt ks key)
    have HEN := hide (blw_end ks key)
    have HOF := hide (fun k h hk => @blw_of ks key k h hk)
    generalize blw ks key = K at *
    go_enter Tryz.func25, Tryz.ntmps25
    go_wp2_with fail
    refine (unhide H1).mono ?_
    rintro e w1 ⟨rfl, q, rfl⟩
    have HB := hide (bel_q (unhide HA) q)
    have hk1 : Sts ((w.alloc (.cells #[.bool lf, .slice ka ks.length kc, .slice va vs.length vc, .slice ia is.length ic] 25)).drewN q) ka ks.length ks := (unhide HK).below (bel_q (Below.refl _ _) q)
    have HK1 := hide hk1
    have hd := box4 (unhide HG) (bel_q (Below.refl _ _) q) hz
    have hz1 : w.heap.size < ((w.alloc (.cells #[.bool lf, .slice ka ks.length kc, .slice va vs.length vc, .slice ia is.length ic] 25)).drewN q).heap.size := hz
    clear hz HG HK HA hk1
    generalize (w.alloc (.cells #[.bool lf, .slice ka ks.length kc, .slice va vs.length vc, .slice ia is.length ic] 25)).drewN q = W at *
    obtain ⟨d0, d1, d2, d3⟩ := hd
    go_wp2
    go_loopw [6] (fun i wr => ∃ k : Nat, k ≤ K ∧ i = .int .i64 k ∧ wr = W) (fun i _ => ks.length - (Go.RowKit.intOf i).toNat)
    case atStart => exact ⟨0, by omega, rfl, rfl⟩
    case round =>
      obtain ⟨k, hk, rfl, rfl⟩ := hrel
      have hl := unhide HL
      by_cases h1 : k < ks.length
      · have h1' : decide ((k : Int) < (ks.length : Int)) = true := by rw [decide_eq_true_eq]; omega
        obtain ⟨p, o, rfl, hpl, hc0⟩ := (unhide HK1).at h1
        have HX : Hid (ks.getD k [] < key → k < K) := by
          intro h
          rcases Nat.lt_or_ge k K with q | q
          · exact q
          · obtain rfl : k = K := by omega
            exact absurd h (unhide HEN h1)
        have HY : Hid (¬ ks.getD k [] < key → K = k) := by
          intro h
          rcases Nat.lt_or_ge k K with q | q
          · exact absurd (unhide HLT k q) h
          · omega
        have HG : Hid (ks.getD k [] = ks.getD k []) := rfl
        generalize hx : ks.getD k [] = x at *
        by_cases h2 : x < key
        · have hs : Op.bytesLess x key = true := by rw [less_eq]; simp [h2]
          have h3 := unhide HX h2
          clear HX HY HG h2
          go_wp2
          go_round
          case measure => simp [Go.RowKit.intOf]; omega
          case rel => exact ⟨k + 1, by omega, by simp, by first | trivial | rfl⟩
        · have hs : Op.bytesLess x key = false := by rw [less_eq]; simp [h2]
          have h3 := unhide HY h2
          clear HX HY HG h2 hk hl
          subst h3
          rw [show (decide (K < ks.length ∧ ks.getD K [] = key)) = (x == key) by rw [hx, Bool.eq_iff_iff]; simp [h1]] at HF
          clear HL HLT HEN HOF hx
          generalize hv : (x == key) = v at *
          cases lf
          · cases v
            · go_wp2
              go_ret2
              exact ⟨by rw [unhide HF]; rfl, unhide HB⟩
            · go_wp2
              go_ret2
              exact ⟨by rw [unhide HF]; rfl, unhide HB⟩
          · go_wp2
            go_ret2
            exact ⟨by rw [unhide HF]; rfl, unhide HB⟩
      · have h1' : decide ((k : Int) < (ks.length : Int)) = false := by rw [decide_eq_false_iff_not]; omega
        have h3 : K = k := by omega
        subst h3
        rw [show (decide (K < ks.length ∧ ks.getD K [] = key)) = false by simp [h1]] at HF
        clear HL HLT HEN HOF hl
        cases lf
        · go_wp2
          go_ret2
          exact ⟨by rw [unhide HF]; rfl, unhide HB⟩
        · go_wp2
          go_ret2
          exact ⟨by rw [unhide HF]; rfl, unhide HB⟩
end Go.Proofs.YtllialbdofklgaaGreatDoor
namespace Go.Proofs.YtllialbdofklgaaGreatDoor
open Go.RowKit
set_option maxHeartbeats 16000000
set_option maxRecDepth 8000
def n0 : Nd := ⟨true, [[97], [98, 99]], [[49], []], []⟩
def x0 : Bs := [2, 1, 97, 1, 49, 2, 98, 99, 0]
def na : Nd := ⟨true, [[97]], [[49]], []⟩
def nb : Nd := ⟨true, [[98]], [[50]], []⟩
def ni : Nd := ⟨false, [[109]], [], [5, 9]⟩
theorem a1 : wrl n0 = 0 := by decide
theorem a2 : bdy n0 = x0 := by decide
theorem a3 : gE x0 = 0 := by decide
theorem a4 : gK x0 = n0.keys := by decide
theorem a5 : gV x0 = n0.vals := by decide
theorem a6 : fnd n0 [98, 99] = (1, true) := by decide
theorem a7 : fnd ni [109] = (1, false) := by decide
theorem a8 : n0.siz = 8 := by decide
theorem a9 : btw [97, 112, 112, 108, 101] [112, 101, 97, 114] = [112] := by decide
theorem a10 : hfl n0 = true := by decide
theorem a11 : kok n0.keys = true := by decide
theorem a12 : (gF (gN x0) (rs 1 (x0, 0))).2.2.2 = 0 := by decide
theorem nbs0 : NB n0 := ⟨by decide, by decide, by decide, by decide, by decide⟩
theorem nbsa : NB na := ⟨by decide, by decide, by decide, by decide, by decide⟩
theorem nbsb : NB nb := ⟨by decide, by decide, by decide, by decide, by decide⟩
theorem nbsi : NB ni := ⟨by decide, by decide, by decide, by decide, by decide⟩
theorem nbsj : NB (jnd na nb) := ⟨by decide, by decide, by decide, by decide, by decide⟩
theorem sts1 {w : World} {g : Nat} {x : Bs} (h : w.heap[g]? = some (.cells #[S x] 9 (0, 0))) : Sts w (some ⟨g, 0, none⟩) 1 [x] :=
  ⟨rfl, fun _ => ⟨g, 0, rfl, fun j hj => by
    obtain rfl : j = 0 := by omega
    rw [cell_of_row w g (0 + 0) _ 9 (0, 0) h]; rfl⟩⟩
theorem sts2 {w : World} {g : Nat} {x y : Bs} (h : w.heap[g]? = some (.cells #[S x, S y] 9 (0, 0))) : Sts w (some ⟨g, 0, none⟩) 2 [x, y] :=
  ⟨rfl, fun _ => ⟨g, 0, rfl, fun j hj => by
    match j, hj with
    | 0, _ => rw [cell_of_row w g (0 + 0) _ 9 (0, 0) h]; rfl
    | 1, _ => rw [cell_of_row w g (0 + 1) _ 9 (0, 0) h]; rfl⟩⟩
theorem ins2 {w : World} {g : Nat} {x y : Int} (h : w.heap[g]? = some (.cells #[I x, I y] 3 (0, 0))) : Ins w (some ⟨g, 0, none⟩) 2 [x, y] :=
  ⟨rfl, fun _ => ⟨g, 0, rfl, fun j hj => by
    match j, hj with
    | 0, _ => rw [cell_of_row w g (0 + 0) _ 3 (0, 0) h]; rfl
    | 1, _ => rw [cell_of_row w g (0 + 1) _ 3 (0, 0) h]; rfl⟩⟩
theorem sts0 (w : World) : Sts w none 0 [] := ⟨rfl, fun h => absurd h (by decide)⟩
theorem done0 (b g off cap : Nat) (W : World) (hr : RAt b g off cap (gF (gN x0) (rs 1 (x0, 0))).2.2.1 (gF (gN x0) (rs 1 (x0, 0))).2.2.2 W) :
    Calls Tryz.prog 95 #[ptr b] W fun e w' => e = .returned (I (gE x0)) ∧ Below W.heap.size W w' := by
  have e : gE x0 = rDone (gF (gN x0) (rs 1 (x0, 0))).2.2.1 0 := by unfold gE; rw [a12]
  rw [e]
  rw [a12] at hr
  exact rdone_ok b g off cap _ W hr
theorem awake_any (w : World) : Calls Tryz.prog 13 #[] w fun e w' => e = .returned (.bool true) ∧ Below w.heap.size w w' := by
  -- the first node's lists
  have B1 := (Below.refl w.heap.size w).alloc (Nat.le_refl _) (.cells #[S [97], S [98, 99]] 9)
  have k1 := heap_alloc_new w (.cells #[S [97], S [98, 99]] 9)
  have s1 := size_alloc w (.cells #[S [97], S [98, 99]] 9)
  generalize hW1 : w.alloc (.cells #[S [97], S [98, 99]] 9) = W1 at B1 k1 s1
  have B2 := B1.alloc B1.size (.cells #[S [49], S []] 9)
  have k2 := (heap_alloc_old W1 (.cells #[S [49], S []] 9) (lt_of_row k1)).trans k1
  have v2 := heap_alloc_new W1 (.cells #[S [49], S []] 9)
  have s2 := size_alloc W1 (.cells #[S [49], S []] 9)
  generalize hW2 : W1.alloc (.cells #[S [49], S []] 9) = W2 at B2 k2 v2 s2
  have hq := heap_alloc_new W2 (.cells #[.bool false, .slice none 0 0, .slice none 0 0, .slice none 0 0] 25)
  have hb3 := (Below.refl W2.heap.size W2).alloc (Nat.le_refl _) (.cells #[.bool false, .slice none 0 0, .slice none 0 0, .slice none 0 0] 25)
  have ht := setRow_heap _ _ _ #[.bool true, .slice (some ⟨w.heap.size, 0, none⟩) 2 2, .slice (some ⟨W1.heap.size, 0, none⟩) 2 2, .slice none 0 0] 25 _ hq
  have hb4 := (setRow_only (W2.alloc (.cells #[.bool false, .slice none 0 0, .slice none 0 0, .slice none 0 0] 25)) W2.heap.size #[.bool true, .slice (some ⟨w.heap.size, 0, none⟩) 2 2, .slice (some ⟨W1.heap.size, 0, none⟩) 2 2, .slice none 0 0]).below hb3 hb3.size (fun k e => by omega)
  generalize hW3 : (W2.alloc (.cells #[.bool false, .slice none 0 0, .slice none 0 0, .slice none 0 0] 25)).setRow W2.heap.size #[.bool true, .slice (some ⟨w.heap.size, 0, none⟩) 2 2, .slice (some ⟨W1.heap.size, 0, none⟩) 2 2, .slice none 0 0] = W3 at ht hb4
  have HQ := hide hq
  have HW3 := hide hW3
  have NA0 := hide (fun (W : World) (q : Below W3.heap.size W3 W) => show NA n0 (some ⟨w.heap.size, 0, none⟩) (some ⟨W1.heap.size, 0, none⟩) none W from
    ⟨((sts2 k2).below hb4).below q, ((sts2 v2).below hb4).below q, Ins.nil _ _⟩)
  have HT := hide ht
  have B3 := hide (B2.trans (hb4.mono B2.size))
  have l3 := lt_of_row ht
  have hnd : nda n0 (some ⟨w.heap.size, 0, none⟩) (some ⟨W1.heap.size, 0, none⟩) none 2 2 0 = .agg #[.bool true, .slice (some ⟨w.heap.size, 0, none⟩) 2 2, .slice (some ⟨W1.heap.size, 0, none⟩) 2 2, .slice none 0 0] := rfl
  have X1 := hide (page_leaf n0 _ _ none 2 2 0 W3 (unhide NA0 _ (Below.refl _ _)) nbs0 rfl)
  unfold pgk pgb at X1
  rw [a1, a2, if_pos rfl, if_pos rfl, hnd] at X1
  obtain ⟨c0, c1, c2, c3⟩ := box4 ht (Below.refl _ _) l3
  clear B1 k1 s1 B2 k2 v2 s2 hq hb3 ht hb4 hW3
  go_enter Tryz.func13, Tryz.ntmps13
  go_wp2_with (first | (refine wp_st25 rfl (.tmp 1) (.tmp 19) rfl W2.heap.size (by rfl) true (some ⟨w.heap.size, 0, none⟩) (some ⟨W1.heap.size, 0, none⟩) none 2 2 2 2 0 0 (by rfl) _ rfl (unhide HQ) ?_; rw [unhide HW3]) | fail)
  refine (unhide X1).mono ?_
  rintro e w4 ⟨rfl, b4⟩
  clear c0 c1 c2 c3 hW1 hW2 HQ HW3 X1
  have hq := heap_alloc_new w4 (.cells #[I 0, I 0, I 0, .slice none 0 0, S []] 27)
  have hb3 := (Below.refl w4.heap.size w4).alloc (Nat.le_refl _) (.cells #[I 0, I 0, I 0, .slice none 0 0, S []] 27)
  have ht := setRow_heap _ _ _ #[I 1, I 0, I 0, .slice none 0 0, S x0] 27 _ hq
  have hb4 := (setRow_only (w4.alloc (.cells #[I 0, I 0, I 0, .slice none 0 0, S []] 27)) w4.heap.size #[I 1, I 0, I 0, .slice none 0 0, S x0]).below hb3 hb3.size (fun k e => by omega)
  generalize hW5 : (w4.alloc (.cells #[I 0, I 0, I 0, .slice none 0 0, S []] 27)).setRow w4.heap.size #[I 1, I 0, I 0, .slice none 0 0, S x0] = W5 at ht hb4
  have HW5 := hide hW5
  have HQ := hide hq
  have HT5 := hide ht
  have B35 := hide (b4.trans (hb4.mono b4.size))
  have l5 := lt_of_row ht
  have X2 := hide (parse_leaf 0 0 none 0 x0 W5 (by decide) a3 (by rw [a4, a5]; exact a1) (fun b g off cap W _ hr => done0 b g off cap W hr))
  rw [a4, a5] at X2
  obtain ⟨c0, c1, c2, c3, c4⟩ := box5 ht (Below.refl _ _) l5
  clear hq hb3 ht hb4 hW5 b4
  go_wp2_with (first | (refine wp_st27 rfl (.tmp 2) (.tmp 23) rfl w4.heap.size (by rfl) 1 0 0 none 0 0 x0 (by rfl) _ rfl (unhide HQ) ?_; rw [unhide HW5]) | fail)
  refine (unhide X2).mono ?_
  rintro e w6 ⟨vK, vV, rfl, rK, rV, oK, oV, ne, b6⟩
  clear c0 c1 c2 c3 c4 HW5 HQ X2
  obtain ⟨pK, cK, rfl⟩ := owns_form rK
  obtain ⟨pV, cV, rfl⟩ := owns_form rV
  have hq := heap_alloc_new w6 (.cells #[.bool false, .slice none 0 0, .slice none 0 0, .slice none 0 0] 25)
  have hb3 := (Below.refl w6.heap.size w6).alloc (Nat.le_refl _) (.cells #[.bool false, .slice none 0 0, .slice none 0 0, .slice none 0 0] 25)
  have ht := setRow_heap _ _ _ #[.bool true, .slice pK 2 cK, .slice pV 2 cV, .slice none 0 0] 25 _ hq
  have hb4 := (setRow_only (w6.alloc (.cells #[.bool false, .slice none 0 0, .slice none 0 0, .slice none 0 0] 25)) w6.heap.size #[.bool true, .slice pK 2 cK, .slice pV 2 cV, .slice none 0 0]).below hb3 hb3.size (fun k e => by omega)
  generalize hW7 : (w6.alloc (.cells #[.bool false, .slice none 0 0, .slice none 0 0, .slice none 0 0] 25)).setRow w6.heap.size #[.bool true, .slice pK 2 cK, .slice pV 2 cV, .slice none 0 0] = W7 at ht hb4
  have HW7 := hide hW7
  have HQ := hide hq
  have HT7 := hide ht
  have B57 := hide (b6.trans (hb4.mono b6.size))
  have B37 := hide ((unhide B35).trans ((unhide B57).mono (unhide B35).size))
  have l7 := lt_of_row ht
  have NA7 := hide (fun (W : World) (q : Below W7.heap.size W7 W) => show NA n0 pK pV none W from by
    obtain ⟨p, c, e1, s1, _⟩ := Sts.of (owns_below (owns_below rK hb4) q)
    obtain ⟨p', c', e2, s2, _⟩ := Sts.of (owns_below (owns_below rV hb4) q)
    cases e1
    cases e2
    exact ⟨s1, s2, Ins.nil _ _⟩)
  have X3 := hide (find_any n0 _ _ none 2 2 0 [98, 99] W7 (unhide NA0 _ (unhide B37)) nbs0)
  rw [a6, hnd] at X3
  have t3 : Hid (W3.heap.size ≤ W7.heap.size) := (unhide B37).size
  obtain ⟨c0, c1, c2, c3⟩ := box4 (unhide HT) (unhide B37) l3
  have l3' := Nat.lt_of_lt_of_le l3 (unhide B37).size
  clear hq hb3 ht hb4 hW7 rK rV oK oV ne b6
  go_wp2_with (first | (refine wp_st25 rfl (.tmp 4) (.tmp 28) rfl w6.heap.size (by rfl) true pK pV none 2 cK 2 cV 0 0 (by rfl) _ rfl (unhide HQ) ?_; rw [unhide HW7]) | fail)
  refine (unhide X3).mono ?_
  rintro e w8 ⟨rfl, b8⟩
  clear c0 c1 c2 c3 HW7 HQ X3 l3'
  -- the inner node
  have A1 := b8.alloc b8.size (.cells #[S [109]] 9)
  have k1 := heap_alloc_new w8 (.cells #[S [109]] 9)
  generalize hW9 : w8.alloc (.cells #[S [109]] 9) = W9 at A1 k1
  have A2 := A1.alloc A1.size (.cells #[I 5, I 9] 3)
  have k2 := (heap_alloc_old W9 (.cells #[I 5, I 9] 3) (lt_of_row k1)).trans k1
  have i2 := heap_alloc_new W9 (.cells #[I 5, I 9] 3)
  generalize hW10 : W9.alloc (.cells #[I 5, I 9] 3) = W10 at A2 k2 i2
  have X4 := hide (find_any ni (some ⟨w8.heap.size, 0, none⟩) none (some ⟨W9.heap.size, 0, none⟩) 1 0 2 [109] W10 ⟨sts1 k2, sts0 _, ins2 i2⟩ nbsi)
  rw [a7] at X4
  have hndi : nda ni (some ⟨w8.heap.size, 0, none⟩) none (some ⟨W9.heap.size, 0, none⟩) 1 0 2 = .agg #[.bool false, .slice (some ⟨w8.heap.size, 0, none⟩) 1 1, .slice none 0 0, .slice (some ⟨W9.heap.size, 0, none⟩) 2 2] := rfl
  rw [hndi] at X4
  have B710 := hide A2
  clear A1 k1 A2 k2 i2 b8 hndi
  go_wp2_with fail
  refine (unhide X4).mono ?_
  rintro e w11 ⟨rfl, b11⟩
  clear hW9 hW10 X4
  have B711 := hide ((unhide B710).trans (b11.mono (unhide B710).size))
  have B311 := hide ((unhide B37).trans ((unhide B711).mono (unhide B37).size))
  have X5 := hide (nodes_any n0 n0 pK pV none _ _ none cK cV 0 2 2 0 w11 (unhide NA7 _ (unhide B711)) (unhide NA0 _ (unhide B311)) nbs0 nbs0)
  rw [hnd, show sam n0 n0 = true by decide] at X5
  have hnd7 : nda n0 pK pV none cK cV 0 = .agg #[.bool true, .slice pK 2 cK, .slice pV 2 cV, .slice none 0 0] := rfl
  rw [hnd7] at X5
  obtain ⟨c0, c1, c2, c3⟩ := box4 (unhide HT) (unhide B311) l3
  obtain ⟨d0, d1, d2, d3⟩ := box4 (unhide HT7) (unhide B711) l7
  have l3' := Nat.lt_of_lt_of_le l3 (unhide B311).size
  have l7' := Nat.lt_of_lt_of_le l7 (unhide B711).size
  clear b11 hnd7
  go_wp2_with fail
  refine (unhide X5).mono ?_
  rintro e w12 ⟨rfl, b12⟩
  clear c0 c1 c2 c3 d0 d1 d2 d3 l3' l7' X5
  have B712 := hide ((unhide B711).trans (b12.mono (unhide B711).size))
  -- Join
  have A1 := (unhide B712).alloc (unhide B712).size (.cells #[S [97]] 9)
  have k1 := heap_alloc_new w12 (.cells #[S [97]] 9)
  generalize hV1 : w12.alloc (.cells #[S [97]] 9) = V1 at A1 k1
  have A2 := A1.alloc A1.size (.cells #[S [49]] 9)
  have k2 := (heap_alloc_old V1 (.cells #[S [49]] 9) (lt_of_row k1)).trans k1
  have m2 := heap_alloc_new V1 (.cells #[S [49]] 9)
  generalize hV2 : V1.alloc (.cells #[S [49]] 9) = V2 at A2 k2 m2
  have A3 := A2.alloc A2.size (.cells #[S [98]] 9)
  have k3 := (heap_alloc_old V2 (.cells #[S [98]] 9) (lt_of_row k2)).trans k2
  have m3 := (heap_alloc_old V2 (.cells #[S [98]] 9) (lt_of_row m2)).trans m2
  have n3 := heap_alloc_new V2 (.cells #[S [98]] 9)
  generalize hV3 : V2.alloc (.cells #[S [98]] 9) = V3 at A3 k3 m3 n3
  have A4 := A3.alloc A3.size (.cells #[S [50]] 9)
  have k4 := (heap_alloc_old V3 (.cells #[S [50]] 9) (lt_of_row k3)).trans k3
  have m4 := (heap_alloc_old V3 (.cells #[S [50]] 9) (lt_of_row m3)).trans m3
  have n4 := (heap_alloc_old V3 (.cells #[S [50]] 9) (lt_of_row n3)).trans n3
  have o4 := heap_alloc_new V3 (.cells #[S [50]] 9)
  generalize hV4 : V3.alloc (.cells #[S [50]] 9) = V4 at A4 k4 m4 n4 o4
  have X6 := hide (join_leaf na nb (some ⟨w12.heap.size, 0, none⟩) (some ⟨V1.heap.size, 0, none⟩) (some ⟨V2.heap.size, 0, none⟩) (some ⟨V3.heap.size, 0, none⟩) 1 1 1 1 [98] V4 ⟨sts1 k4, sts1 m4, Ins.nil _ _⟩ ⟨sts1 n4, sts1 o4, Ins.nil _ _⟩ nbsa nbsb nbsj rfl rfl rfl rfl (by decide) (by decide) (by decide) (by decide) (by decide) (by decide) (by decide) (by decide) (by decide) (by decide) (by decide) (by decide) (by decide) (by decide) (by decide) (by decide) (by decide) (by decide) (by decide))
  have e1 : nda na (some ⟨w12.heap.size, 0, none⟩) (some ⟨V1.heap.size, 0, none⟩) none 1 1 0 = .agg #[.bool true, .slice (some ⟨w12.heap.size, 0, none⟩) 1 1, .slice (some ⟨V1.heap.size, 0, none⟩) 1 1, .slice none 0 0] := rfl
  have e2 : nda nb (some ⟨V2.heap.size, 0, none⟩) (some ⟨V3.heap.size, 0, none⟩) none 1 1 0 = .agg #[.bool true, .slice (some ⟨V2.heap.size, 0, none⟩) 1 1, .slice (some ⟨V3.heap.size, 0, none⟩) 1 1, .slice none 0 0] := rfl
  rw [e1, e2] at X6
  have B7V := hide A4
  clear A1 k1 A2 k2 m2 A3 k3 m3 n3 A4 k4 m4 n4 o4 e1 e2 b12
  go_wp2_with fail
  refine (unhide X6).mono ?_
  rintro e w13 ⟨vK, vV, rfl, rK, rV, oK, oV, b13⟩
  clear hV1 hV2 hV3 hV4 X6
  obtain ⟨qK, dK, rfl⟩ := owns_form rK
  obtain ⟨qV, dV, rfl⟩ := owns_form rV
  have B713 := hide ((unhide B7V).trans (b13.mono (unhide B7V).size))
  have hq := heap_alloc_new w13 (.cells #[.bool false, .slice none 0 0, .slice none 0 0, .slice none 0 0] 25)
  have hb3 := (Below.refl w13.heap.size w13).alloc (Nat.le_refl _) (.cells #[.bool false, .slice none 0 0, .slice none 0 0, .slice none 0 0] 25)
  have ht := setRow_heap _ _ _ #[.bool true, .slice qK 2 dK, .slice qV 2 dV, .slice none 0 0] 25 _ hq
  have hb4 := (setRow_only (w13.alloc (.cells #[.bool false, .slice none 0 0, .slice none 0 0, .slice none 0 0] 25)) w13.heap.size #[.bool true, .slice qK 2 dK, .slice qV 2 dV, .slice none 0 0]).below hb3 hb3.size (fun k e => by omega)
  generalize hW14 : (w13.alloc (.cells #[.bool false, .slice none 0 0, .slice none 0 0, .slice none 0 0] 25)).setRow w13.heap.size #[.bool true, .slice qK 2 dK, .slice qV 2 dV, .slice none 0 0] = W14 at ht hb4
  have HW14 := hide hW14
  have HQ := hide hq
  have HT14 := hide ht
  have B714 := hide ((unhide B713).trans (hb4.mono (unhide B713).size))
  have B314 := hide ((unhide B37).trans ((unhide B714).mono (unhide B37).size))
  have l14 := lt_of_row ht
  have X7 := hide (split_small n0 _ _ none 2 2 0 W14 (unhide NA0 _ (unhide B314)) nbs0 rfl a10 a11 (by decide))
  rw [hnd] at X7
  obtain ⟨c0, c1, c2, c3⟩ := box4 (unhide HT) (unhide B314) l3
  have l3' := Nat.lt_of_lt_of_le l3 (unhide B314).size
  clear hq hb3 ht hb4 hW14 rK rV oK oV b13
  go_wp2_with (first | (refine wp_st25 rfl (.tmp 11) (.tmp 53) rfl w13.heap.size (by rfl) true qK qV none 2 dK 2 dV 0 0 (by rfl) _ rfl (unhide HQ) ?_; rw [unhide HW14]) | fail)
  refine (unhide X7).mono ?_
  rintro e w15 ⟨rfl, b15⟩
  clear c0 c1 c2 c3 l3' HW14 HQ X7
  have B1415 := hide b15
  -- the two parts of nothing
  have A1 := (Below.refl w15.heap.size w15).alloc (Nat.le_refl _) (.cells #[.bool false, .slice none 0 0, .slice none 0 0, .slice none 0 0] 25)
  have k1 := heap_alloc_new w15 (.cells #[.bool false, .slice none 0 0, .slice none 0 0, .slice none 0 0] 25)
  have s1 := size_alloc w15 (.cells #[.bool false, .slice none 0 0, .slice none 0 0, .slice none 0 0] 25)
  generalize hU1 : w15.alloc (.cells #[.bool false, .slice none 0 0, .slice none 0 0, .slice none 0 0] 25) = U1 at A1 k1 s1
  have A2 := A1.alloc A1.size (.cells #[.bool false, .slice none 0 0, .slice none 0 0, .slice none 0 0] 25)
  have k2 := (heap_alloc_old U1 (.cells #[.bool false, .slice none 0 0, .slice none 0 0, .slice none 0 0] 25) (lt_of_row k1)).trans k1
  have m2 := heap_alloc_new U1 (.cells #[.bool false, .slice none 0 0, .slice none 0 0, .slice none 0 0] 25)
  generalize hU2 : U1.alloc (.cells #[.bool false, .slice none 0 0, .slice none 0 0, .slice none 0 0] 25) = U2 at A2 k2 m2
  have o3 := setRow_only U2 w15.heap.size #[.bool false, .slice none 0 0, .slice none 0 0, .slice none 0 0]
  have m3 := (o3.block U1.heap.size (lt_of_row m2) (by omega)).trans m2
  have A3 := o3.below A2 A2.size (fun k e => by omega)
  generalize hU3 : U2.setRow w15.heap.size #[.bool false, .slice none 0 0, .slice none 0 0, .slice none 0 0] = U3 at o3 m3 A3
  have o4 := setRow_only U3 U1.heap.size #[.bool false, .slice none 0 0, .slice none 0 0, .slice none 0 0]
  have A4 := o4.below A3 A3.size (fun k e => by omega)
  generalize hU4 : U3.setRow U1.heap.size #[.bool false, .slice none 0 0, .slice none 0 0, .slice none 0 0] = U4 at o4 A4
  have HK2 := hide k2
  have HM3 := hide m3
  have HU3 := hide hU3
  have HU4 := hide hU4
  have B14 := hide (b15.trans (A4.mono b15.size))
  have B7E := hide ((unhide B714).trans ((unhide B14).mono (unhide B714).size))
  have B3E := hide ((unhide B37).trans ((unhide B7E).mono (unhide B37).size))
  have B5E := hide ((unhide B57).trans ((unhide B7E).mono (unhide B57).size))
  have BE := hide ((unhide B3).trans ((unhide B3E).mono (unhide B3).size))
  obtain ⟨c0, c1, c2, c3⟩ := box4 (unhide HT) (unhide B3E) l3
  obtain ⟨p0, p1, p2, p3, p4⟩ := box5 (unhide HT5) (unhide B5E) l5
  obtain ⟨f0, f1, f2, f3⟩ := box4 (unhide HT14) (unhide B14) l14
  have l3' := Nat.lt_of_lt_of_le l3 (unhide B3E).size
  have l5' := Nat.lt_of_lt_of_le l5 (unhide B5E).size
  have l14' := Nat.lt_of_lt_of_le l14 (unhide B14).size
  have X8 := hide (size_any n0 _ _ none 2 2 0 U4 (unhide NA0 _ (unhide B3E)) nbs0)
  rw [hnd, a8] at X8
  have X9 := hide (fun W => between_any [97, 112, 112, 108, 101] [112, 101, 97, 114] W (by decide) (by decide))
  rw [a9] at X9
  clear A1 k1 s1 A2 k2 m2 o3 m3 A3 hU3 o4 A4 hU4 b15
  go_wp2_with (first | (refine wp_st25 rfl (.tmp 13) (.tmp 58) rfl w15.heap.size (by rfl) false none none none 0 0 0 0 0 0 (by rfl) _ rfl (unhide HK2) ?_; rw [unhide HU3]) | (refine wp_st25 rfl (.tmp 15) (.tmp 60) rfl U1.heap.size (by rfl) false none none none 0 0 0 0 0 0 (by rfl) _ rfl (unhide HM3) ?_; rw [unhide HU4]) | fail)
  refine (unhide X8).mono ?_
  rintro e w16 ⟨rfl, b16⟩
  clear c0 c1 c2 c3 p0 p1 p2 p3 p4 f0 f1 f2 f3 l3' l5' l14' X8 HK2 HM3 HU3 HU4
  obtain ⟨f0, f1, f2, f3⟩ := box4 (unhide HT14) ((unhide B14).trans (b16.mono (unhide B14).size)) l14
  have l14' := Nat.lt_of_lt_of_le l14 ((unhide B14).trans (b16.mono (unhide B14).size)).size
  have BF := hide ((unhide BE).trans (b16.mono (unhide BE).size))
  have x9 := hide (unhide X9 w16)
  clear b16 X9
  go_wp2_with fail
  refine (unhide x9).mono ?_
  rintro e w17 ⟨rfl, b17⟩
  have BG := hide ((unhide BF).trans (b17.mono (unhide BF).size))
  clear b17 x9
  go_wp2
  go_ret
  exact ⟨by first | rfl | simp, unhide BG⟩
end Go.Proofs.YtllialbdofklgaaGreatDoor
