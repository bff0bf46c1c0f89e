import Derived.Test.YtllialbdofklgaaGreatDoorNth
import Derived.Test.YtllialbdofklgaaGreatDoorZnti
import Derived.Test.YtllialbdofklgaaGreatDoorNps
namespace Go.Proofs.YtllialbdofklgaaGreatDoor
open Go.RowKit
set_option linter.unusedVariables false
set_option maxHeartbeats 16000000
set_option maxRecDepth 8000
/-- The document's Parse 47. -/
theorem refParse_any (k nu bi : Int) (la : Option Addr) (ln lc : Nat) (L : List Int) (x : Bs) (w : World) (hx : x.length ≤ 4294967296) (hL : Ins w la ln L) (hLn : ln ≤ 4294967296) (z : la = none → lc = 0) :
    Calls Tryz.prog 47 #[.agg #[I k, I nu, I bi, .slice la ln lc, S x]] w fun e w' => ∃ vK vV vI, e = .returned (.tuple #[.agg #[.bool (prs k L x).leaf, vK, vV, vI], I (per k L x)]) ∧ Rws w.heap.size (prs k L x) vK vV vI w' ∧ Below w.heap.size w w' := by
  cases x with
  | nil => exact refParse_nil k nu bi la ln lc L w hL hLn z
  | cons c tl =>
    have ht : tl.length ≤ 4294967296 := by simp at hx; omega
    by_cases h1 : k = 1
    · subst h1
      exact refParse_L c tl ht nu bi la ln lc L w hL hLn z
    · by_cases h2 : k = 2
      · subst h2
        exact refParse_I c tl ht nu bi la ln lc L w hL hLn z
      · exact refParse_kind k c tl h1 h2 nu bi la ln lc L w hL hLn z
/-- Parse 34, in the same words. -/
theorem parse_all (k nu bi : Int) (la : Option Addr) (ln lc : Nat) (L : List Int) (x : Bs) (w : World) (hx : x.length ≤ 4294967296) (hL : Ins w la ln L) (hLn : ln ≤ 4294967296) (hl : Lay w) :
    Calls Tryz.prog 34 #[.agg #[I k, I nu, I bi, .slice la ln lc, S x]] w fun e w' => ∃ vK vV vI, e = .returned (.tuple #[.agg #[.bool (prs k L x).leaf, vK, vV, vI], I (per k L x)]) ∧ Rws w.heap.size (prs k L x) vK vV vI w' ∧ Apt vK vV vI ∧ Below w.heap.size w w' := by
  refine (parse_any k nu bi la ln lc L x w hx hL hLn hl).mono ?_
  rintro e w' (⟨hp, vK, vV, vI, rfl, r1, r2, r3, ⟨a1, a2, a3, a4⟩, b⟩ | ⟨hp, rfl, b⟩)
  · have e1 : prs k L x = pnd k L x := by unfold prs; rw [hp]; rfl
    have e2 : per k L x = 0 := by unfold per; rw [hp]; rfl
    rw [e1, e2]
    exact ⟨vK, vV, vI, rfl, ⟨r1, r2, r3, a1, a2, a3⟩, ⟨fun i p q => a4 i p q, row_ne r1 r3 (by decide), row_ne r2 r3 (by decide)⟩, b⟩
  · have e1 : prs k L x = zro := by unfold prs; rw [hp]; rfl
    have e2 : per k L x = 100 := by unfold per; rw [hp]; rfl
    rw [e1, e2]
    exact ⟨_, _, _, rfl, Rws.zro _ _, ⟨dsj_nil _, dsj_nil _, dsj_nil _⟩, b⟩
theorem prs_nb (k : Int) (L : List Int) (x : Bs) (hL : L.length ≤ 4294967296) : NB (prs k L x) := by
  unfold prs
  split
  · exact pnd_nb k L x hL
  · exact ⟨by decide, by decide, by decide, by decide, by decide⟩
theorem two_page (w : World) (A B : Array Value) : Below w.heap.size w ((w.alloc (.cells A 27)).alloc (.cells B 27)) ∧ ((w.alloc (.cells A 27)).alloc (.cells B 27)).heap[w.heap.size]? = some (.cells A 27 (0, 0)) ∧ ((w.alloc (.cells A 27)).alloc (.cells B 27)).heap[w.heap.size + 1]? = some (.cells B 27 (0, 0)) := by
  have h1 := (Below.refl w.heap.size w).alloc (Nat.le_refl _) (.cells A 27)
  have h2 := heap_alloc_new w (.cells A 27)
  have h3 := size_alloc w (.cells A 27)
  have h4 := heap_alloc_new (w.alloc (.cells A 27)) (.cells B 27)
  rw [h3] at h4
  exact ⟨h1.alloc h1.size (.cells B 27), (alloc_old _ (.cells B 27) (lt_of_row h2)).trans h2, h4⟩
/-- Book.read 20. -/
theorem bookRead_any (k nu bi : Int) (la lb : Option Addr) (ln lc ld : Nat) (L : List Int) (x : Bs) (B b : Nat) (vT vU vN vM : Value) (tT tU tN tM : List Value) (w : World) (hx : x.length ≤ 4294967296) (hL : Ins w la ln L) (hM : Ins w lb ln L) (hLn : ln ≤ 4294967296) (z : lb = none → ld = 0) (hl : Lay w)
    (hB : Bx B b vT vU vN vM tT tU tN tM w) (lT : tT.length ≤ 100000) (lU : tU.length ≤ 100000) (lN : tN.length ≤ 100000) (lM : tM.length ≤ 100000) :
    Calls Tryz.prog 20 #[.pointer (some ⟨b, 0, none⟩), .agg #[I k, I nu, I bi, .slice la ln lc, S x], .agg #[I k, I nu, I bi, .slice lb ln ld, S x]] w fun e w' => e = .returned (.bool true) ∧ ∃ vT' vU' vN' vM' vK vV vI cK cV cI, Bx B b vT' vU' vN' vM' (tT ++ [vK, vV]) (tU ++ [cK, cV]) (tN ++ [vI]) (tM ++ [cI]) w' ∧ Rws w.heap.size (prs k L x) vK vV vI w' ∧ Rws w.heap.size (prs k L x) cK cV cI w' ∧ Apt vK vV vI ∧ Only (bkt B w) w w' := by
  have fb := two_page w #[I k, I nu, I bi, .slice la ln lc, S x] #[I k, I nu, I bi, .slice lb ln ld, S x]
  have hs4 : ((w.alloc (.cells #[I k, I nu, I bi, .slice la ln lc, S x] 27)).alloc (.cells #[I k, I nu, I bi, .slice lb ln ld, S x] 27)).heap.size = w.heap.size + 1 + 1 := by simp
  generalize hW4 : (w.alloc (.cells #[I k, I nu, I bi, .slice la ln lc, S x] 27)).alloc (.cells #[I k, I nu, I bi, .slice lb ln ld, S x] 27) = W4 at fb hs4
  obtain ⟨hA, k1, k2⟩ := fb
  have X1 := hide (parse_all k nu bi la ln lc L x W4 hx (hL.below hA) hLn (hl.below hA))
  have X2 := hide (fun W (q : Below W4.heap.size W4 W) => refParse_any k nu bi lb ln ld L x W hx ((hM.below hA).below q) hLn z)
  have HNB := hide (prs_nb k L x (by rw [← hL.1]; exact hLn))
  have HA := hide hA
  have HK4 := hide k2
  have HBx := hide (hB.below hA)
  have HL := hide (And.intro lT (And.intro lU (And.intro lN lM)))
  have HS4 := hide hs4
  obtain ⟨c0, c1, c2, c3, c4⟩ := box5 k1 (Below.refl _ _) (lt_of_row k1)
  have e1 := lt_of_row k1
  have e4 := lt_of_row k2
  clear hA k1 k2 hL hM z hl hB lT lU lN lM hs4
  generalize hr : prs k L x = r at *
  generalize hj : per k L x = er at *
  have herl : er ≤ 100 := by rw [← hj]; unfold per; split <;> omega
  clear hr hj
  go_enter Tryz.func20, Tryz.ntmps20
  go_wp2_with fail
  refine (unhide X1).mono ?_
  rintro e w3 ⟨vK, vV, vI, rfl, r3, ap3, b3⟩
  clear X1 c0 c1 c2 c3 c4 hW4
  obtain ⟨p1, y1, p2, y2, p3, y3, rfl, rfl, rfl⟩ := r3.form
  have HR3 := hide r3
  have HAP := hide ap3
  have HB3 := hide b3
  clear r3 ap3 b3
  generalize hrl : r.leaf = rl at *
  generalize hrk : r.keys.length = rk at *
  generalize hrv : r.vals.length = rv at *
  generalize hri : r.kids.length = ri at *
  have HRE := hide (And.intro hrl (And.intro hrk (And.intro hrv hri)))
  clear hrl hrk hrv hri
  have hq5 := heap_alloc_new w3 (.cells #[.bool false, .slice none 0 0, .slice none 0 0, .slice none 0 0] 25)
  have hb5 := (Below.refl w3.heap.size w3).alloc (Nat.le_refl _) (.cells #[.bool false, .slice none 0 0, .slice none 0 0, .slice none 0 0] 25)
  have ht5 := setRow_heap _ _ _ #[.bool rl, .slice p1 rk y1, .slice p2 rv y2, .slice p3 ri y3] 25 _ hq5
  have hc5 := (setRow_only (w3.alloc (.cells #[.bool false, .slice none 0 0, .slice none 0 0, .slice none 0 0] 25)) w3.heap.size #[.bool rl, .slice p1 rk y1, .slice p2 rv y2, .slice p3 ri y3]).below hb5 hb5.size (fun k e => by omega)
  generalize hW5 : (w3.alloc (.cells #[.bool false, .slice none 0 0, .slice none 0 0, .slice none 0 0] 25)).setRow w3.heap.size #[.bool rl, .slice p1 rk y1, .slice p2 rv y2, .slice p3 ri y3] = W5 at ht5 hc5
  have HW5 := hide hW5
  have HQ5 := hide hq5
  have HT5 := hide ht5
  have HC5 := hide hc5
  have b5 := (unhide HB3).trans (hc5.mono (unhide HB3).size)
  have HB5 := hide b5
  obtain ⟨d0, d1, d2, d3, d4⟩ := box5 (unhide HK4) b5 e4
  have e6 := Nat.lt_of_lt_of_le e4 b5.size
  have x2 := hide (unhide X2 W5 b5)
  clear hq5 hb5 ht5 hc5 hW5 b5 X2
  go_wp2_with (first | (refine wp_st25 rfl (.tmp 7) (.tmp 15) rfl w3.heap.size (by rfl) rl p1 p2 p3 rk y1 rv y2 ri y3 (by rfl) _ rfl (unhide HQ5) ?_; rw [unhide HW5]) | fail)
  refine (unhide x2).mono ?_
  rintro e w6 ⟨vK, vV, vI, rfl, r6, b6⟩
  clear x2 d0 d1 d2 d3 d4 e6 HQ5 HW5
  obtain ⟨q1, z1, q2, z2, q3, z3, rfl, rfl, rfl⟩ := r6.form
  obtain ⟨hrl, hrk, hrv, hri⟩ := unhide HRE
  rw [hrk, hrv, hri] at r6 ⊢
  have hq7 := heap_alloc_new w6 (.cells #[.bool false, .slice none 0 0, .slice none 0 0, .slice none 0 0] 25)
  have hb7 := (Below.refl w6.heap.size w6).alloc (Nat.le_refl _) (.cells #[.bool false, .slice none 0 0, .slice none 0 0, .slice none 0 0] 25)
  have ht7 := setRow_heap _ _ _ #[.bool rl, .slice q1 rk z1, .slice q2 rv z2, .slice q3 ri z3] 25 _ hq7
  have hc7 := (setRow_only (w6.alloc (.cells #[.bool false, .slice none 0 0, .slice none 0 0, .slice none 0 0] 25)) w6.heap.size #[.bool rl, .slice q1 rk z1, .slice q2 rv z2, .slice q3 ri z3]).below hb7 hb7.size (fun k e => by omega)
  generalize hW7 : (w6.alloc (.cells #[.bool false, .slice none 0 0, .slice none 0 0, .slice none 0 0] 25)).setRow w6.heap.size #[.bool rl, .slice q1 rk z1, .slice q2 rv z2, .slice q3 ri z3] = W7 at ht7 hc7
  have HW7 := hide hW7
  have HQ7 := hide hq7
  have b57 := b6.trans (hc7.mono b6.size)
  have b37 := (unhide HC5).trans (b57.mono (unhide HC5).size)
  have b47 := (unhide HB5).trans (b57.mono (unhide HB5).size)
  have hx7 := (b57.block _ (lt_of_row (unhide HT5))).trans (unhide HT5)
  have RR1 := (unhide HR3).below b37
  have RR2 := r6.below hc7
  have x3 := hide (nodes_any r r p1 p2 p3 q1 q2 q3 y1 y2 y3 z1 z2 z3 W7 (by have q := RR1; rw [← hrk, ← hrv, ← hri] at q; exact q.na') (by have q := RR2; rw [← hrk, ← hrv, ← hri] at q; exact q.na') (unhide HNB) (unhide HNB))
  unfold nda at x3
  rw [hrl, hrk, hrv, hri] at x3
  obtain ⟨c0, c1, c2, c3⟩ := box4 hx7 (Below.refl _ _) (lt_of_row hx7)
  obtain ⟨d0, d1, d2, d3⟩ := box4 ht7 (Below.refl _ _) (lt_of_row ht7)
  have e5 := lt_of_row hx7
  have e6 := lt_of_row ht7
  have HX7 := hide hx7
  have HB47 := hide b47
  have HRR1 := hide RR1
  clear hq7 hb7 ht7 hc7 hW7 b6 r6 RR1 RR2 b57 b37 b47 hx7 hrl hrk hrv hri
  go_wp2_with (first | (refine wp_st25 rfl (.tmp 9) (.tmp 20) rfl w6.heap.size (by rfl) rl q1 q2 q3 rk z1 rv z2 ri z3 (by rfl) _ rfl (unhide HQ7) ?_; rw [unhide HW7]) | fail)
  refine (unhide x3).mono ?_
  rintro e w8 ⟨rfl, b8⟩
  rw [sam_self]
  clear x3 c0 c1 c2 c3 d0 d1 d2 d3 e5 e6 HQ7 HW7
  have hx8 := (b8.block _ (lt_of_row (unhide HX7))).trans (unhide HX7)
  obtain ⟨c0, c1, c2, c3⟩ := box4 hx8 (Below.refl _ _) (lt_of_row hx8)
  have e5 := lt_of_row hx8
  have b48 := (unhide HB47).trans (b8.mono (unhide HB47).size)
  have RR1 := (unhide HRR1).below b8
  have hB8 := (unhide HBx).below b48
  have hL := unhide HL
  obtain ⟨hrl, hrk, hrv, hri⟩ := unhide HRE
  have RR2 := RR1
  rw [← hrk, ← hrv, ← hri] at RR2
  have x5 := hide (bookNode_any r B b p1 p2 p3 y1 y2 y3 vT vU vN vM tT tU tN tM w8 RR2.na' (unhide HNB) (owns_z RR2.rK) (owns_z RR2.rV) (owns_z RR2.rI) hB8 (by omega) (by omega) (by omega) (by omega))
  unfold nda at x5
  rw [hrl, hrk, hrv, hri] at x5
  have HA8 := hide ((unhide HA).trans (b48.mono (unhide HA).size))
  have HR8 := hide RR1
  have HB48 := hide b48
  clear b8 hx8 b48 RR1 RR2 hB8 hL hrl hrk hrv hri
  go_wp2_with fail
  refine (unhide x5).mono ?_
  rintro e w9 ⟨rfl, vT1, vU1, vN1, vM1, cK, cV, cI, hB9, r9, o9⟩
  clear x5 c0 c1 c2 c3 e5
  have HB9 := hide hB9
  have HR9 := hide r9
  have HO9 := hide o9
  clear hB9 r9 o9
  have hii : ((er : Int) == (er : Int)) = true := by simp
  go_wp2
  go_ret
  have hle := (unhide HA8).size
  have hs := unhide HS4
  refine ⟨by first | rfl | simp, vT1, vU1, vN1, vM1, _, _, _, cK, cV, cI, unhide HB9, ((unhide HR8).bkt (unhide HO9)).mono (by omega), (unhide HR9).mono hle, unhide HAP, bkt_trans (Only.of_below (unhide HA8)) (unhide HO9)⟩
end Go.Proofs.YtllialbdofklgaaGreatDoor
