import Derived.Test.YtllialbdofklgaaGreatDoorNps
import Derived.Test.YtllialbdofklgaaGreatDoorZnpb
namespace Go.Proofs.YtllialbdofklgaaGreatDoor
open Go.RowKit
set_option linter.unusedVariables false
set_option maxHeartbeats 16000000
set_option maxRecDepth 8000
/-- A page of the law's book: Book.page 45. -/
theorem bookPage_any (k nu bi : Int) (L : List Int) (s : Bs) (B b : Nat) (la : Option Addr) (lc : Nat) (vT vU vN vM : Value) (tT tU tN tM : List Value) (w : World) (h : w.ownsRow 0 3 1 (.slice la L.length lc) L.length (L.map fun z => I z)) (hl : L.length ≤ 4294967296)
    (hB : Bx B b vT vU vN vM tT tU tN tM w) (lN : tN.length ≤ 1000000) (lM : tM.length ≤ 1000000) :
    Calls Tryz.prog 45 #[.pointer (some ⟨b, 0, none⟩), .agg #[I k, I nu, I bi, .slice la L.length lc, S s]] w fun e w' => e = .returned (.tuple #[]) ∧ ∃ vN' vM' cI, Bx B b vT vU vN' vM' tT tU (tN ++ [.slice la L.length lc]) (tM ++ [cI]) w' ∧ (w'.ownsRow 0 3 1 cI L.length (L.map fun z => I z) ∧ ∀ i, cI.ownBlock = some i → w.heap.size ≤ i) ∧ Only (bkt B w) w w' := by
  have hA := (Below.refl w.heap.size w).alloc (Nat.le_refl _) (.cells #[I k, I nu, I bi, .slice la L.length lc, S s] 27)
  have hg := heap_alloc_new w (.cells #[I k, I nu, I bi, .slice la L.length lc, S s] 27)
  have hs1 := size_alloc w (.cells #[I k, I nu, I bi, .slice la L.length lc, S s] 27)
  generalize hW3 : w.alloc (.cells #[I k, I nu, I bi, .slice la L.length lc, S s] 27) = W3 at hA hg hs1
  have HA3 := hide hA
  have HG3 := hide hg
  have HS := hide hs1
  have HB3 := hide (hB.below hA)
  have HIn := hide (owns_below h hA)
  have HL := hide (And.intro lN (And.intro lM hl))
  have HZ := hide (owns_z h)
  clear hA hg hs1 h hB lN lM hl
  generalize hll : L.length = ll at *
  have HLL := hide hll
  clear hll
  go_enter Tryz.func45, Tryz.ntmps45
  go_upto_region 2 with fail
  clear hW3
  go_cut [] from 5 to 15 (fun wx => ∃ V, Bx B b vT vU V vM tT tU (tN ++ [.slice la ll lc]) tM wx ∧ Only (bkt B W3) W3 wx)
  case first =>
    have dr := (Below.refl W3.heap.size W3).drew
    have hBx := (unhide HB3).below dr
    obtain ⟨f0, f1, f2, f3⟩ := box36 (unhide HB3).box (Below.refl _ _) (lt_of_row (unhide HB3).box)
    obtain ⟨g0, g1, g2, g3⟩ := box36 hBx.box (Below.refl _ _) (lt_of_row hBx.box)
    obtain ⟨c0, c1, c2, c3, c4⟩ := box5 (unhide HG3) (Below.refl _ _) (lt_of_row (unhide HG3))
    obtain ⟨d0, d1, d2, d3, d4⟩ := box5 (unhide HG3) dr (lt_of_row (unhide HG3))
    obtain ⟨p7, q7, w7, hr7, ro7, on7, nw7⟩ := app_many 34 23 34 _ 24 und34 info23 rfl _ _ _ W3.drew hBx.rN [.slice la ll lc] 1 rfl (by intro u hu; simp at hu; rw [hu]; rfl) (by have := unhide HL; omega) (by have := unhide HL; omega)
    have hal := heap_alloc_old W3 (.cells #[.slice la ll lc] 23) (lt_of_row (unhide HB3).box)
    have hal2 := hal.trans (unhide HB3).box
    have lj7 := lt_of_row hal2
    obtain ⟨a0, a1, a2, a3⟩ := box36 hal2 (Below.refl _ _) (lt_of_row hal2)
    have hs7 : (Builtin.append_ #[34, 34] 34 #[vN, .slice (some ⟨W3.heap.size, 0, none⟩) 1 1]).run Tryz.prog (W3.alloc (.cells #[.slice la ll lc] 23)).drew = .ok (.slice p7 (tN.length + 1) q7) w7 := hr7
    obtain ⟨P7, bk7, bx7⟩ := hBx.pushN on7 (by rw [List.length_append]; exact ro7) nw7
    have fz := frz bx7 2
    obtain ⟨m0, m1, m2, m3⟩ := box36 bx7 (Below.refl _ _) (lt_of_row bx7)
    have HP7 := hide P7
    have HK7 := hide bk7
    clear dr hBx hal hal2 hr7 ro7 on7 nw7 bx7 P7 bk7
    go_region_law (first
    | refine step_app_run rfl (.tmp 9) (.tmp 12) 34 rfl vN (.slice (some ⟨W3.heap.size, 0, none⟩) 1 1) (by rfl) (by rfl) (.slice p7 (tN.length + 1) q7) w7 hs7 ?_)
    all_goals (
      go_wp2
      go_meet
      case rel => exact ⟨_, unhide HP7, (unhide HK7).left_drew⟩)
  obtain ⟨vN7, hB, o⟩ := hcut
  have HB7b := hide hB
  have HO7b := hide o
  have HG7b := hide (bkt_box (unhide HG3) o (by decide))
  clear hB o
  go_upto_region 3 with fail
  have HI7 := hide (bkt_row (unhide HIn) (unhide HO7b) (by decide))
  generalize wc = W7 at *
  have dr := (Below.refl W7.heap.size W7).drew
  have hBx := (unhide HB7b).below dr
  obtain ⟨f0, f1, f2, f3⟩ := box36 (unhide HB7b).box (Below.refl _ _) (lt_of_row (unhide HB7b).box)
  obtain ⟨g0, g1, g2, g3⟩ := box36 hBx.box (Below.refl _ _) (lt_of_row hBx.box)
  obtain ⟨c0, c1, c2, c3, c4⟩ := box5 (unhide HG7b) (Below.refl _ _) (lt_of_row (unhide HG7b))
  obtain ⟨d0, d1, d2, d3, d4⟩ := box5 (unhide HG7b) dr (lt_of_row (unhide HG7b))
  have hI7 : Ins W7.drew la ll L := by
    obtain ⟨p, cap, e, q, -⟩ := Ins.of (by have q := owns_below (unhide HI7) dr; rw [← unhide HLL] at q; exact q)
    injection e with e1 e2 e3
    subst e1
    rw [← unhide HLL]
    exact q
  obtain ⟨p8, q8, w8, hr8, ro8, on8, nw8⟩ := app_anyI (w := W7.drew) (tt := 23) (.slice none 0 0) 0 [] (owns_nil _ _ _) la ll lc L hI7 (unhide HZ) (by have := unhide HL; omega)
  have b8 : Below W7.drew.heap.size W7.drew w8 := on8.below (Below.refl _ _) (Nat.le_refl _) (fun k q => nomatch q)
  have hB8 := hBx.below b8
  obtain ⟨i0, i1, i2, i3⟩ := box36 hB8.box (Below.refl _ _) (lt_of_row hB8.box)
  have il := lt_of_row hB8.box
  simp only [List.nil_append, Nat.zero_add] at hr8 ro8 nw8
  obtain ⟨p9, q9, w9, hr9, ro9, on9, nw9⟩ := app_many 34 23 34 _ 24 und34 info23 rfl _ _ _ w8 hB8.rM [.slice p8 ll q8] 1 rfl (by intro u hu; simp at hu; rw [hu]; rfl) (by have := unhide HL; omega) (by have := unhide HL; omega)
  have hal := heap_alloc_old w8 (.cells #[.slice p8 ll q8] 23) (lt_of_row hB8.box)
  have hal2 := hal.trans hB8.box
  have lj := lt_of_row hal2
  obtain ⟨a0, a1, a2, a3⟩ := box36 hal2 (Below.refl _ _) (lt_of_row hal2)
  have hs9 : (Builtin.append_ #[34, 34] 34 #[vM, .slice (some ⟨w8.heap.size, 0, none⟩) 1 1]).run Tryz.prog (w8.alloc (.cells #[.slice p8 ll q8] 23)) = .ok (.slice p9 (tM.length + 1) q9) w9 := hr9
  obtain ⟨P9, bk9, bx9⟩ := hB8.pushM on9 (by rw [List.length_append]; exact ro9) nw9
  have fz := frz bx9 3
  obtain ⟨m0, m1, m2, m3⟩ := box36 bx9 (Below.refl _ _) (lt_of_row bx9)
  have HP9 := hide P9
  have o89 := bkt_trans (Only.of_below b8) bk9
  have HR9 := hide (bkt_row ro8 bk9 (by decide))
  have HN8 := hide nw8
  have HK9 := hide o89
  have hdl := dr.size
  have HDL := hide hdl
  clear dr hBx hal hal2 hr9 ro9 on9 nw9 bx9 P9 bk9 b8 hB8 ro8 on8 nw8 hI7 o89 hdl
  go_region_law (first
    | refine step_app_run rfl (.tmp 21) (.tmp 23) 23 rfl (.slice none 0 0) (.slice la ll lc) (by rfl) (by rfl) (.slice p8 ll q8) w8 hr8 ?_
    | refine step_app_run rfl (.tmp 20) (.tmp 25) 34 rfl vM (.slice (some ⟨w8.heap.size, 0, none⟩) 1 1) (by rfl) (by rfl) (.slice p9 (tM.length + 1) q9) w9 hs9 ?_)
  all_goals (
    go_wp2
    have oA := bkt_trans (unhide HO7b) (unhide HK9).left_drew
    have hs := unhide HS
    have h7 := (unhide HO7b).size
    refine bodyPost_end (results_none rfl _ _ _) rfl ⟨rfl, _, _, .slice p8 ll q8, unhide HP9, ⟨unhide HR9, fun i hi => ?_⟩, bkt_trans (Only.of_below (unhide HA3)) oA⟩
    have := (unhide HN8 i hi).resolve_left (fun q => nomatch q)
    have := unhide HDL
    omega)
end Go.Proofs.YtllialbdofklgaaGreatDoor
