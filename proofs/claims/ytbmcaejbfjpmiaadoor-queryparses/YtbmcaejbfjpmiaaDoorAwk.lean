import Derived.Test.YtbmcaejbfjpmiaaDoorPra
import Derived.Test.YtbmcaejbfjpmiaaDoorPrn
import Derived.Test.YtbmcaejbfjpmiaaDoorOna
namespace Go.Proofs.YtbmcaejbfjpmiaaDoor
open Go.RowKit Go.Lib
theorem Env.next {w W : World} (hE : Env w.heap.size w) (b : Below w.heap.size w W) : Env W.heap.size W := (hE.below b).top b.size (Nat.le_refl _)
theorem ex1 : esc [97, 32, 98, 38, 99, 61, 33] = [97, 43, 98, 37, 50, 54, 99, 37, 51, 68, 37, 50, 49] := by decide +kernel
theorem ex2 : tell2 (rd [37, 99, 51, 37, 65, 52, 43, 33]) = .tuple #[S [195, 164, 32, 33], .int .i64 0] := by kernel_rfl
theorem ex3 : tell2 (rd [37, 52]) = .tuple #[S [], .int .i64 30] := by kernel_rfl
theorem ex4 : prt [([97], [49]), ([], [120])] = [97, 61, 49, 38, 61, 120] := by decide +kernel
theorem ex5 : parse [97, 61, 49, 38, 98] = .ok [([97], [49]), ([98], [])] := by kernel_rfl
theorem ex6 : parse [97, 61, 49, 38, 38, 98] = .error (31, 4) := by kernel_rfl
theorem ex7 : tell2 (one [([97], [49]), ([98], [])] [97]) = .tuple #[S [49], .int .i64 0] := by kernel_rfl
theorem ex8 : tell2 (one [([97], [49]), ([98], [])] [99]) = .tuple #[S [], .int .i64 33] := by kernel_rfl
set_option maxHeartbeats 8000000 in
set_option maxRecDepth 8000 in
theorem awake_any (w : World) (hE : Env w.heap.size w) :
    Calls Tryd.prog 9 #[] w fun e w' => e = .returned (.bool true) ∧ Below w.heap.size w w' := by
  have H1 := hide (qEscape_any [97, 32, 98, 38, 99, 61, 33] w hE (by decide))
  rw [ex1] at H1
  have HE := hide hE
  clear hE
  go_enter Tryd.func9, Tryd.ntmps9
  go_wp2_with fail
  refine (unhide H1).mono ?_
  rintro e w1 ⟨rfl, b1⟩
  have B1 := hide b1
  have H2 := hide (qUnescape_any [37, 99, 51, 37, 65, 52, 43, 33] w1 (by decide))
  rw [ex2] at H2
  clear b1 H1
  go_wp2_with fail
  refine (unhide H2).mono ?_
  rintro e w2 ⟨rfl, b2⟩
  have B2 := hide ((unhide B1).trans (b2.mono (unhide B1).size))
  have H3 := hide (qUnescape_any [37, 52] w2 (by decide))
  rw [ex3] at H3
  clear b2 H2 B1
  go_wp2_with fail
  refine (unhide H3).mono ?_
  rintro e w3 ⟨rfl, b3⟩
  have B3 := hide ((unhide B2).trans (b3.mono (unhide B2).size))
  clear b3 H3 B2
  have hA : (w3.alloc (.cells #[S [97], S [49], S [], S [120]] 44)).heap[w3.heap.size]? = some (.cells #[S [97], S [49], S [], S [120]] 44 (0, 0)) := by
    show (w3.heap.push _)[w3.heap.size]? = _
    simp
  have hF : Fls (w3.alloc (.cells #[S [97], S [49], S [], S [120]] 44)) (some ⟨w3.heap.size, 0, none⟩) 2 [([97], [49]), ([], [120])] := by
    refine ⟨rfl, fun _ => ⟨_, 0, rfl, fun j hj => ?_⟩⟩
    rcases (by omega : j = 0 ∨ j = 1) with rfl | rfl
    · exact ⟨by rw [cell_of_heap hA]; rfl, by rw [cell_of_heap hA]; rfl⟩
    · exact ⟨by rw [cell_of_heap hA]; rfl, by rw [cell_of_heap hA]; rfl⟩
  have B3' := hide ((unhide B3).alloc (o := .cells #[S [97], S [49], S [], S [120]] 44) (unhide B3).size)
  have H4 := hide (print_any (some ⟨w3.heap.size, 0, none⟩) 2 2 _ _ hF ((unhide HE).next (unhide B3')) (by decide))
  rw [ex4] at H4
  clear hA hF B3
  go_wp2_with fail
  refine (unhide H4).mono ?_
  rintro e w4 ⟨rfl, b4⟩
  have B4 := hide ((unhide B3').trans (b4.mono (unhide B3').size))
  have H5 := hide (parse_any [97, 61, 49, 38, 98] w4 (by decide))
  clear b4 H4 B3'
  go_wp2_with fail
  refine (unhide H5).mono ?_
  intro e w5 h5
  unfold Told at h5
  rw [ex5] at h5
  obtain ⟨b5, v, rfl, o5⟩ := h5
  obtain ⟨p, cap, rfl, hF5⟩ := o5.fls
  have B5 := hide ((unhide B4).trans (b5.mono (unhide B4).size))
  have H6 := hide (parse_any [97, 61, 49, 38, 38, 98] w5 (by decide))
  have F5 := hide hF5
  clear b5 H5 B4 o5 hF5
  rw [show ([([97], [49]), ([98], [])] : List Fl).length = 2 from rfl] at F5 ⊢
  go_wp2_with fail
  refine (unhide H6).mono ?_
  intro e w6 h6
  unfold Told at h6
  rw [ex6] at h6
  obtain ⟨b6, rfl⟩ := h6
  have B6 := hide ((unhide B5).trans (b6.mono (unhide B5).size))
  have F6 := hide ((unhide F5).below b6)
  have H7 := hide (qOne_any p 2 cap _ [97] w6 (unhide F6) (by decide))
  rw [ex7] at H7
  clear b6 H6 B5 F5
  go_wp2_with fail
  refine (unhide H7).mono ?_
  rintro e w7 ⟨rfl, b7⟩
  have B7 := hide ((unhide B6).trans (b7.mono (unhide B6).size))
  have F7 := hide ((unhide F6).below b7)
  have H8 := hide (qOne_any p 2 cap _ [99] w7 (unhide F7) (by decide))
  rw [ex8] at H8
  clear b7 H7 B6 F6
  go_wp2_with fail
  refine (unhide H8).mono ?_
  rintro e w8 ⟨rfl, b8⟩
  have B8 := hide ((unhide B7).trans (b8.mono (unhide B7).size))
  have F8 := (unhide F7).below b8
  obtain ⟨g, o, rfl, _, c0, c1⟩ := F8.at (j := 0) (by decide)
  obtain ⟨g', o', e', _, d0, d1⟩ := F8.at (j := 1) (by decide)
  obtain ⟨rfl, rfl⟩ : g = g' ∧ o = o' := by simpa using e'
  have c0' : w8.cell? ⟨g, o, none⟩ = some (S [97]) := c0
  have c1' : w8.cell? ⟨g, o + 1, none⟩ = some (S [49]) := c1
  have d0' : w8.cell? ⟨g, o + 2, none⟩ = some (S [98]) := d0
  have d1' : w8.cell? ⟨g, o + 3, none⟩ = some (S []) := d1
  clear b8 H8 B7 F7 F8 c0 c1 d0 d1 e'
  go_wp2
  go_ret
  exact ⟨rfl, unhide B8⟩
end Go.Proofs.YtbmcaejbfjpmiaaDoor
