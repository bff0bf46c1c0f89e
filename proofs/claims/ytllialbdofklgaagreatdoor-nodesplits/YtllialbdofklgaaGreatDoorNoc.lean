import Derived.Test.YtllialbdofklgaaGreatDoorZnfd
import Derived.Test.YtllialbdofklgaaGreatDoorZndm
import Derived.Test.YtllialbdofklgaaGreatDoorZndg
namespace Go.Proofs.YtllialbdofklgaaGreatDoor
open Go.RowKit
set_option maxHeartbeats 16000000
set_option maxRecDepth 8000
theorem wrongSplit_ok (n : Nd) (ka va ia : Option Addr) (kc vc ic : Nat) (w : World) (h : NA n ka va ia w) (hb : NB n) (h1 : hfv n = true) (h2 : kok n.keys = true) (h3 : 480 < n.siz) (h4 : n.siz ≤ 718) :
    Calls Tryz.prog 64 #[nda n ka va ia kc vc ic] w fun e w' => e = .returned (I 0) ∧ Below w.heap.size w w' := by
  have hA := (Below.refl w.heap.size w).alloc (Nat.le_refl _) (.cells #[.bool n.leaf, .slice ka n.keys.length kc, .slice va n.vals.length vc, .slice ia n.kids.length ic] 25)
  have hg := heap_alloc_new w (.cells #[.bool n.leaf, .slice ka n.keys.length kc, .slice va n.vals.length vc, .slice ia n.kids.length ic] 25)
  have hz := lt_of_row hg
  have hna := h.below hA
  have H1 := hide (size_any n ka va ia kc vc ic _ hna hb)
  have H2 := hide (fun W (b : Below (w.alloc (.cells #[.bool n.leaf, .slice ka n.keys.length kc, .slice va n.vals.length vc, .slice ia n.kids.length ic] 25)).heap.size (w.alloc (.cells #[.bool n.leaf, .slice ka n.keys.length kc, .slice va n.vals.length vc, .slice ia n.kids.length ic] 25)) W) => hasForm_any n ka va ia kc vc ic W (hna.below b) hb)
  have H3 := hide (fun W (b : Below (w.alloc (.cells #[.bool n.leaf, .slice ka n.keys.length kc, .slice va n.vals.length vc, .slice ia n.kids.length ic] 25)).heap.size (w.alloc (.cells #[.bool n.leaf, .slice ka n.keys.length kc, .slice va n.vals.length vc, .slice ia n.kids.length ic] 25)) W) => keysMayBe_any ka _ kc n.keys W (hna.below b).ks hb.k hb.kt)
  rw [h1] at H2
  rw [h2] at H3
  have HA := hide hA
  have HG := hide hg
  generalize n.siz = sz at *
  clear h hA hb hna hg h1 h2
  unfold nda at *
  generalize n.leaf = lf at *
  generalize n.keys.length = kl at *
  generalize n.vals.length = vl at *
  generalize n.kids.length = il at *
  generalize hW : w.alloc (.cells #[.bool lf, .slice ka kl kc, .slice va vl vc, .slice ia il ic] 25) = W0 at *
  obtain ⟨d0, d1, d2, d3⟩ := box4 (unhide HG) (Below.refl _ _) hz
  go_enter Tryz.func64, Tryz.ntmps64
  go_wp2_with fail
  refine (unhide H1).mono ?_
  rintro e w1 ⟨rfl, b1⟩
  clear d0 d1 d2 d3 hW H1
  obtain ⟨d0, d1, d2, d3⟩ := box4 (unhide HG) b1 hz
  have hz1 := Nat.lt_of_lt_of_le hz b1.size
  have x2 := hide (unhide H2 w1 b1)
  have B1 := hide b1
  clear b1 H2
  go_wp2_with fail
  refine (unhide x2).mono ?_
  rintro e w2 ⟨rfl, b2⟩
  clear d0 d1 d2 d3 x2 hz1
  have b2 := (unhide B1).trans (b2.mono (unhide B1).size)
  obtain ⟨d0, d1, d2, d3⟩ := box4 (unhide HG) b2 hz
  have hz1 := Nat.lt_of_lt_of_le hz b2.size
  have x3 := hide (unhide H3 w2 b2)
  have B2 := hide b2
  clear b2 H3
  go_wp2_with fail
  refine (unhide x3).mono ?_
  rintro e w3 ⟨rfl, nq, rfl⟩
  have B3 := hide ((unhide HA).trans ((bel_q (unhide B2) nq).mono (unhide HA).size))
  have h' : decide ((sz : Int) ≤ 480) = false := by rw [decide_eq_false_iff_not]; omega
  have h'' : decide ((718 : Int) < (sz : Int)) = false := by rw [decide_eq_false_iff_not]; omega
  go_wp2
  go_ret
  exact ⟨rfl, unhide B3⟩
theorem mayJoin_any (n : Nd) (ka va ia : Option Addr) (kc vc ic : Nat) (w : World) (h : NA n ka va ia w) (hb : NB n) (h1 : agv n = true) (h2 : n.siz ≤ 480) (h3 : 0 < n.keys.length) :
    Calls Tryz.prog 69 #[nda n ka va ia kc vc ic] w fun e w' => e = .returned (.bool true) ∧ Below w.heap.size w w' := by
  have hA := (Below.refl w.heap.size w).alloc (Nat.le_refl _) (.cells #[.bool n.leaf, .slice ka n.keys.length kc, .slice va n.vals.length vc, .slice ia n.kids.length ic] 25)
  have hg := heap_alloc_new w (.cells #[.bool n.leaf, .slice ka n.keys.length kc, .slice va n.vals.length vc, .slice ia n.kids.length ic] 25)
  have hz := lt_of_row hg
  have hna := h.below hA
  have H1 := hide (agrees_any n ka va ia kc vc ic _ hna hb)
  rw [h1] at H1
  have H3 := hide (fun W (b : Below (w.alloc (.cells #[.bool n.leaf, .slice ka n.keys.length kc, .slice va n.vals.length vc, .slice ia n.kids.length ic] 25)).heap.size (w.alloc (.cells #[.bool n.leaf, .slice ka n.keys.length kc, .slice va n.vals.length vc, .slice ia n.kids.length ic] 25)) W) => size_any n ka va ia kc vc ic W (hna.below b) hb)
  have HA := hide hA
  have HG := hide hg
  generalize n.siz = sz at *
  clear h hA hb hna hg h1
  unfold nda at *
  generalize n.leaf = lf at *
  generalize n.keys.length = kl at *
  generalize n.vals.length = vl at *
  generalize n.kids.length = il at *
  clear n
  have p1' : (0 : Int) < (kl : Int) := by omega
  have p1'' : decide ((0 : Int) < (kl : Int)) = true := by rw [decide_eq_true_eq]; omega
  cases lf
  all_goals (
    go_enter Tryz.func69, Tryz.ntmps69
    go_wp2_with fail
    refine (unhide H1).mono ?_
    rintro e w1 ⟨rfl, b⟩
    have HB1 := hide b
    obtain ⟨d0, d1, d2, d3⟩ := box4 (unhide HG) b hz
    have hz1 : w.heap.size < w1.heap.size := Nat.lt_of_lt_of_le hz b.size
    have h3 := hide (unhide H3 w1 b)
    clear b H3
    go_wp2_with fail
    refine (unhide h3).mono ?_
    rintro e w3 ⟨rfl, b3⟩
    have HB3 := hide ((unhide HA).trans (((unhide HB1).trans (b3.mono (unhide HB1).size)).mono (unhide HA).size))
    have h' : decide ((sz : Int) ≤ 480) = true := by rw [decide_eq_true_eq]; omega
    clear b3
    go_wp2
    go_ret
    exact ⟨ret_bool (by first | rfl | simpa using h'), unhide HB3⟩)
end Go.Proofs.YtllialbdofklgaaGreatDoor
