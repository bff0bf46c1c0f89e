import Derived.Test.YtllialbdofklgaaGreatDoorNdd
namespace Go.Proofs.YtllialbdofklgaaGreatDoor
open Go.RowKit
set_option maxHeartbeats 4000000
set_option maxRecDepth 8000
/-- A leaf whose lists go together. -/
def agl (n : Nd) : Bool := decide (n.vals.length = n.keys.length) && decide (n.kids.length = 0) && !anyB lng n.vals
theorem agrees_leaf (n : Nd) (ka va ia : Option Addr) (kc vc ic : Nat) (w : World) (h : NA n ka va ia w) (hb : NB n) (hl : n.leaf = true) :
    Calls Tryz.prog 101 #[nda n ka va ia kc vc ic] w fun e w' => e = .returned (.bool (agl n)) ∧ Below w.heap.size w w' := by
  obtain ⟨lf, ks, vs, is⟩ := n
  simp only at hl
  subst hl
  have hA := (Below.refl w.heap.size w).alloc (Nat.le_refl _) (.cells #[.bool true, .slice ka ks.length kc, .slice va vs.length vc, .slice ia is.length ic] 25)
  have hvs := (h.below hA).vs
  have H1 := hide (containsFuncL_any va vs.length vc vs _ hvs hb.v hb.vt)
  have b1 := hb.k
  have b2 := hb.v
  have b3 := hb.i
  simp only at b1 b2 b3
  have HA := hide hA
  have HF := hide (show agl ⟨true, ks, vs, is⟩ = (decide (vs.length = ks.length) && decide (is.length = 0) && !anyB lng vs) from rfl)
  generalize agl ⟨true, ks, vs, is⟩ = F at *
  clear h hA hvs hb
  unfold nda
  simp only
  generalize hal : anyB lng vs = al at *
  generalize hkl : ks.length = kl at *
  generalize hvl : vs.length = vl at *
  generalize hil : is.length = il at *
  clear hkl hvl hil hal ks vs is
  by_cases h1 : vl = kl
  · subst h1
    by_cases h2 : il = 0
    · subst h2
      go_enter Tryz.func101, Tryz.ntmps101
      go_wp2_with fail
      refine (unhide H1).mono ?_
      rintro e w1 ⟨rfl, rfl⟩
      go_wp2
      go_ret
      exact ⟨ret_bool (by rw [unhide HF]; simp), unhide HA⟩
    · have h2' : ((il : Int) == 0) = false := by simp; omega
      go_enter Tryz.func101, Tryz.ntmps101
      go_wp2
      go_ret
      exact ⟨ret_bool (by rw [unhide HF]; simp [h2]), unhide HA⟩
  · have h1' : ((vl : Int) == (kl : Int)) = false := by simp; omega
    go_enter Tryz.func101, Tryz.ntmps101
    go_wp2
    go_ret
    exact ⟨ret_bool (by rw [unhide HF]; simp [h1]), unhide HA⟩
/-- A leaf that has its form. -/
def hfl (n : Nd) : Bool := decide (0 < n.keys.length) && agl n
theorem hasForm_leaf (n : Nd) (ka va ia : Option Addr) (kc vc ic : Nat) (w : World) (h : NA n ka va ia w) (hb : NB n) (hl : n.leaf = true) :
    Calls Tryz.prog 87 #[nda n ka va ia kc vc ic] w fun e w' => e = .returned (.bool (hfl n)) ∧ Below w.heap.size w w' := by
  have hA := (Below.refl w.heap.size w).alloc (Nat.le_refl _) (.cells #[.bool n.leaf, .slice ka n.keys.length kc, .slice va n.vals.length vc, .slice ia n.kids.length ic] 25)
  have H1 := hide (agrees_leaf n ka va ia kc vc ic _ (h.below hA) hb hl)
  have b1 := hb.k
  have HA := hide hA
  unfold hfl
  generalize agl n = ag at *
  clear h hA hb hl
  unfold nda at *
  generalize n.keys.length = kl at *
  generalize n.vals.length = vl at *
  generalize n.kids.length = il at *
  generalize n.leaf = lf at *
  by_cases h1 : 0 < kl
  · have h1' : decide ((0 : Int) < (kl : Int)) = true := by rw [decide_eq_true_eq]; omega
    go_enter Tryz.func87, Tryz.ntmps87
    go_wp2_with fail
    refine (unhide H1).mono ?_
    rintro e w1 ⟨rfl, b⟩
    have HB := hide ((unhide HA).trans (b.mono (unhide HA).size))
    clear b
    go_wp2
    go_ret
    exact ⟨ret_bool (by simp [h1]), unhide HB⟩
  · have h1' : decide ((0 : Int) < (kl : Int)) = false := by rw [decide_eq_false_iff_not]; omega
    go_enter Tryz.func87, Tryz.ntmps87
    go_wp2
    go_ret
    exact ⟨ret_bool (by simp [h1]), unhide HA⟩
/-- Why a leaf is not right. -/
def wrl (n : Nd) : Nat := if hfl n then (if kok n.keys then (if 480 < n.siz then 102 else 0) else 101) else 100
theorem wrong_leaf (n : Nd) (ka va ia : Option Addr) (kc vc ic : Nat) (w : World) (h : NA n ka va ia w) (hb : NB n) (hl : n.leaf = true) :
    Calls Tryz.prog 59 #[nda n ka va ia kc vc ic] w fun e w' => e = .returned (I (wrl n)) ∧ Below w.heap.size w w' := by
  have hA := (Below.refl w.heap.size w).alloc (Nat.le_refl _) (.cells #[.bool n.leaf, .slice ka n.keys.length kc, .slice va n.vals.length vc, .slice ia n.kids.length ic] 25)
  have hg := heap_alloc_new w (.cells #[.bool n.leaf, .slice ka n.keys.length kc, .slice va n.vals.length vc, .slice ia n.kids.length ic] 25)
  have hz := lt_of_row hg
  have hna := h.below hA
  have H1 := hide (hasForm_leaf n ka va ia kc vc ic _ hna hb hl)
  have H2 := hide (fun W (b : Below (w.alloc (.cells #[.bool n.leaf, .slice ka n.keys.length kc, .slice va n.vals.length vc, .slice ia n.kids.length ic] 25)).heap.size (w.alloc (.cells #[.bool n.leaf, .slice ka n.keys.length kc, .slice va n.vals.length vc, .slice ia n.kids.length ic] 25)) W) => keysMayBe_any ka _ kc n.keys W (hna.below b).ks hb.k hb.kt)
  have H3 := hide (fun W (b : Below (w.alloc (.cells #[.bool n.leaf, .slice ka n.keys.length kc, .slice va n.vals.length vc, .slice ia n.kids.length ic] 25)).heap.size (w.alloc (.cells #[.bool n.leaf, .slice ka n.keys.length kc, .slice va n.vals.length vc, .slice ia n.kids.length ic] 25)) W) => size_any n ka va ia kc vc ic W (hna.below b) hb)
  have HA := hide hA
  have HG := hide hg
  have hsz : n.siz ≤ 100000000000 := by
    obtain ⟨b1, b2, b3, b4, b5⟩ := hb
    unfold Nd.siz
    split <;> omega
  unfold wrl
  generalize hfl n = c1 at *
  generalize kok n.keys = c2 at *
  generalize n.siz = sz at *
  clear h hA hb hl hna hg
  unfold nda at *
  generalize n.keys.length = kl at *
  generalize n.vals.length = vl at *
  generalize n.kids.length = il at *
  generalize n.leaf = lf at *
  clear n
  go_enter Tryz.func59, Tryz.ntmps59
  go_wp2_with fail
  refine (unhide H1).mono ?_
  rintro e w1 ⟨rfl, b⟩
  have HB1 := hide b
  obtain ⟨d0, d1, d2, d3⟩ := box4 (unhide HG) b hz
  have hz1 : w.heap.size < w1.heap.size := Nat.lt_of_lt_of_le hz b.size
  have h2 := hide (unhide H2 w1 b)
  clear b H2
  cases c1
  · go_wp2
    go_ret
    exact ⟨rfl, (unhide HA).trans ((unhide HB1).mono (unhide HA).size)⟩
  · go_wp2_with fail
    refine (unhide h2).mono ?_
    rintro e w2 ⟨rfl, q, rfl⟩
    have HB2 := hide (bel_q (unhide HB1) q)
    have h3 := hide (unhide H3 _ (bel_q (unhide HB1) q))
    clear H3
    cases c2
    · go_wp2
      go_ret
      exact ⟨rfl, (unhide HA).trans ((unhide HB2).mono (unhide HA).size)⟩
    · go_wp2_with fail
      refine (unhide h3).mono ?_
      rintro e w3 ⟨rfl, b3⟩
      have HB3 := hide ((unhide HA).trans (((unhide HB2).trans (b3.mono (unhide HB2).size)).mono (unhide HA).size))
      clear b3
      by_cases h : 480 < sz
      · have h' : decide ((480 : Int) < (sz : Int)) = true := by rw [decide_eq_true_eq]; omega
        go_wp2
        go_ret
        exact ⟨ret_int (by simp), unhide HB3⟩
      · have h' : decide ((480 : Int) < (sz : Int)) = false := by rw [decide_eq_false_iff_not]; omega
        go_wp2
        go_ret
        exact ⟨ret_int (by simp), unhide HB3⟩
end Go.Proofs.YtllialbdofklgaaGreatDoor
