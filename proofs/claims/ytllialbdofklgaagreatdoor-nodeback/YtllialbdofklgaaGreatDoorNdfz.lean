import Derived.Test.YtllialbdofklgaaGreatDoorNdd
import Derived.Test.YtllialbdofklgaaGreatDoorNrd
namespace Go.Proofs.YtllialbdofklgaaGreatDoor
open Go.RowKit
set_option maxHeartbeats 4000000
set_option maxRecDepth 8000
/-- A leaf whose lists go together. -/
def agl (n : Nd) : Bool := decide (n.vals.length = n.keys.length) && decide (n.kids.length = 0) && !anyB lng n.vals
theorem agrees_leaf (n : Nd) (ka va ia : Option Addr) (kc vc ic : Nat) (w : World) (h : NA n ka va ia w) (hb : NB n) (hl : n.leaf = true) :
    Calls Tryz.prog 101 #[nda n ka va ia kc vc ic] w fun e w' => e = .returned (.bool (agl n)) ∧ Below w.heap.size w w' := by
  obtain ⟨lf, ks, vs, is⟩ := n
  simp only at hl
  subst hl
  have hA := (Below.refl w.heap.size w).alloc (Nat.le_refl _) (.cells #[.bool true, .slice ka ks.length kc, .slice va vs.length vc, .slice ia is.length ic] 25)
  have hvs := (h.below hA).vs
  have H1 := hide (containsFuncL_any va vs.length vc vs _ hvs hb.v hb.vt)
  have b1 := hb.k
  have b2 := hb.v
  have b3 := hb.i
  simp only at b1 b2 b3
  have HA := hide hA
  have HF := hide (show agl ⟨true, ks, vs, is⟩ = (decide (vs.length = ks.length) && decide (is.length = 0) && !anyB lng vs) from rfl)
  generalize agl ⟨true, ks, vs, is⟩ = F at *
  clear h hA hvs hb
  unfold nda
  simp only
  generalize hal : anyB lng vs = al at *
  generalize hkl : ks.length = kl at *
  generalize hvl : vs.length = vl at *
  generalize hil : is.length = il at *
  clear hkl hvl hil hal ks vs is
  by_cases h1 : vl = kl
  · subst h1
    by_cases h2 : il = 0
    · subst h2
      go_enter Tryz.func101, Tryz.ntmps101
      go_wp2_with fail
      refine (unhide H1).mono ?_
      rintro e w1 ⟨rfl, rfl⟩
      go_wp2
      go_ret
      exact ⟨ret_bool (by rw [unhide HF]; simp), unhide HA⟩
    · have h2' : ((il : Int) == 0) = false := by simp; omega
      go_enter Tryz.func101, Tryz.ntmps101
      go_wp2
      go_ret
      exact ⟨ret_bool (by rw [unhide HF]; simp [h2]), unhide HA⟩
  · have h1' : ((vl : Int) == (kl : Int)) = false := by simp; omega
    go_enter Tryz.func101, Tryz.ntmps101
    go_wp2
    go_ret
    exact ⟨ret_bool (by rw [unhide HF]; simp [h1]), unhide HA⟩
/-- A leaf that has its form. -/
def hfl (n : Nd) : Bool := decide (0 < n.keys.length) && agl n
theorem hasForm_leaf (n : Nd) (ka va ia : Option Addr) (kc vc ic : Nat) (w : World) (h : NA n ka va ia w) (hb : NB n) (hl : n.leaf = true) :
    Calls Tryz.prog 87 #[nda n ka va ia kc vc ic] w fun e w' => e = .returned (.bool (hfl n)) ∧ Below w.heap.size w w' := by
  have hA := (Below.refl w.heap.size w).alloc (Nat.le_refl _) (.cells #[.bool n.leaf, .slice ka n.keys.length kc, .slice va n.vals.length vc, .slice ia n.kids.length ic] 25)
  have H1 := hide (agrees_leaf n ka va ia kc vc ic _ (h.below hA) hb hl)
  have b1 := hb.k
  have HA := hide hA
  unfold hfl
  generalize agl n = ag at *
  clear h hA hb hl
  unfold nda at *
  generalize n.keys.length = kl at *
  generalize n.vals.length = vl at *
  generalize n.kids.length = il at *
  generalize n.leaf = lf at *
  by_cases h1 : 0 < kl
  · have h1' : decide ((0 : Int) < (kl : Int)) = true := by rw [decide_eq_true_eq]; omega
    go_enter Tryz.func87, Tryz.ntmps87
    go_wp2_with fail
    refine (unhide H1).mono ?_
    rintro e w1 ⟨rfl, b⟩
    have HB := hide ((unhide HA).trans (b.mono (unhide HA).size))
    clear b
    go_wp2
    go_ret
    exact ⟨ret_bool (by simp [h1]), unhide HB⟩
  · have h1' : decide ((0 : Int) < (kl : Int)) = false := by rw [decide_eq_false_iff_not]; omega
    go_enter Tryz.func87, Tryz.ntmps87
    go_wp2
    go_ret
    exact ⟨ret_bool (by simp [h1]), unhide HA⟩
/-- Why a leaf is not right. -/
def wrl (n : Nd) : Nat := if hfl n then (if kok n.keys then (if 480 < n.siz then 102 else 0) else 101) else 100
theorem wrong_leaf (n : Nd) (ka va ia : Option Addr) (kc vc ic : Nat) (w : World) (h : NA n ka va ia w) (hb : NB n) (hl : n.leaf = true) :
    Calls Tryz.prog 59 #[nda n ka va ia kc vc ic] w fun e w' => e = .returned (I (wrl n)) ∧ Below w.heap.size w w' := by
  have hA := (Below.refl w.heap.size w).alloc (Nat.le_refl _) (.cells #[.bool n.leaf, .slice ka n.keys.length kc, .slice va n.vals.length vc, .slice ia n.kids.length ic] 25)
  have hg := heap_alloc_new w (.cells #[.bool n.leaf, .slice ka n.keys.length kc, .slice va n.vals.length vc, .slice ia n.kids.length ic] 25)
  have hz := lt_of_row hg
  have hna := h.below hA
  have H1 := hide (hasForm_leaf n ka va ia kc vc ic _ hna hb hl)
  have H2 := hide (fun W (b : Below (w.alloc (.cells #[.bool n.leaf, .slice ka n.keys.length kc, .slice va n.vals.length vc, .slice ia n.kids.length ic] 25)).heap.size (w.alloc (.cells #[.bool n.leaf, .slice ka n.keys.length kc, .slice va n.vals.length vc, .slice ia n.kids.length ic] 25)) W) => keysMayBe_any ka _ kc n.keys W (hna.below b).ks hb.k hb.kt)
  have H3 := hide (fun W (b : Below (w.alloc (.cells #[.bool n.leaf, .slice ka n.keys.length kc, .slice va n.vals.length vc, .slice ia n.kids.length ic] 25)).heap.size (w.alloc (.cells #[.bool n.leaf, .slice ka n.keys.length kc, .slice va n.vals.length vc, .slice ia n.kids.length ic] 25)) W) => size_any n ka va ia kc vc ic W (hna.below b) hb)
  have HA := hide hA
  have HG := hide hg
  have hsz : n.siz ≤ 100000000000 := by
    obtain ⟨b1, b2, b3, b4, b5⟩ := hb
    unfold Nd.siz
    split <;> omega
  unfold wrl
  generalize hfl n = c1 at *
  generalize kok n.keys = c2 at *
  generalize n.siz = sz at *
  clear h hA hb hl hna hg
  unfold nda at *
  generalize n.keys.length = kl at *
  generalize n.vals.length = vl at *
  generalize n.kids.length = il at *
  generalize n.leaf = lf at *
  clear n
  go_enter Tryz.func59, Tryz.ntmps59
  go_wp2_with fail
  refine (unhide H1).mono ?_
  rintro e w1 ⟨rfl, b⟩
  have HB1 := hide b
  obtain ⟨d0, d1, d2, d3⟩ := box4 (unhide HG) b hz
  have hz1 : w.heap.size < w1.heap.size := Nat.lt_of_lt_of_le hz b.size
  have h2 := hide (unhide H2 w1 b)
  clear b H2
  cases c1
  · go_wp2
    go_ret
    exact ⟨rfl, (unhide HA).trans ((unhide HB1).mono (unhide HA).size)⟩
  · go_wp2_with fail
    refine (unhide h2).mono ?_
    rintro e w2 ⟨rfl, q, rfl⟩
    have HB2 := hide (bel_q (unhide HB1) q)
    have h3 := hide (unhide H3 _ (bel_q (unhide HB1) q))
    clear H3
    cases c2
    · go_wp2
      go_ret
      exact ⟨rfl, (unhide HA).trans ((unhide HB2).mono (unhide HA).size)⟩
    · go_wp2_with fail
      refine (unhide h3).mono ?_
      rintro e w3 ⟨rfl, b3⟩
      have HB3 := hide ((unhide HA).trans (((unhide HB2).trans (b3.mono (unhide HB2).size)).mono (unhide HA).size))
      clear b3
      by_cases h : 480 < sz
      · have h' : decide ((480 : Int) < (sz : Int)) = true := by rw [decide_eq_true_eq]; omega
        go_wp2
        go_ret
        exact ⟨ret_int (by simp), unhide HB3⟩
      · have h' : decide ((480 : Int) < (sz : Int)) = false := by rw [decide_eq_false_iff_not]; omega
        go_wp2
        go_ret
        exact ⟨ret_int (by simp), unhide HB3⟩
end Go.Proofs.YtllialbdofklgaaGreatDoor
namespace Go.Proofs.YtllialbdofklgaaGreatDoor
open Go.RowKit
set_option maxHeartbeats 4000000
set_option maxRecDepth 8000
theorem Wt.text {w0 w : World} {b : Nat} {X : Bs} (h : Wt w0 b X w) (most : Nat) (s : Bs) (hm : most ≤ 255) (hs : s.length ≤ most) (hX : X.length ≤ 1000000000) :
    Calls Tryz.prog 90 #[ptr b, I most, S s] w fun e w' => e = .returned (.tuple #[]) ∧ Wt w0 b (X ++ (be 1 s.length ++ s)) w' := by
  obtain ⟨v, h1, h2, h3, h4⟩ := h
  refine (wtext_any b v X 0 most s w h1 (by omega)).mono ?_
  rintro e w' ⟨rfl, hw⟩
  have e1 : textE most s.length = 0 := by
    unfold textE
    rw [if_pos ⟨by omega, by omega⟩, if_pos (by omega)]
  have e2 : textY most s = be 1 s.length ++ s := by
    unfold textY ahd
    rw [if_pos (by omega)]
  rw [e1, e2, wPut_ok] at hw
  exact ⟨rfl, Wt.to h2 h3 h4 hw⟩
/-- A key, and its value, as they are laid. -/
def ent (lf : Bool) (k v : Bs) : Bs := (be 1 k.length ++ k) ++ (if lf then be 1 v.length ++ v else [])
/-- The first j of them. -/
def bdn (n : Nd) : Nat → Bs
  | 0 => be 1 n.keys.length
  | j + 1 => bdn n j ++ ent n.leaf (n.keys.getD j []) (n.vals.getD j [])
def bdy (n : Nd) : Bs := bdn n n.keys.length
theorem bdn_len (n : Nd) (hk : ∀ j, (n.keys.getD j []).length ≤ 36) (hv : ∀ j, (n.vals.getD j []).length ≤ 200) : ∀ j, (bdn n j).length ≤ 1 + 240 * j
  | 0 => by simp [bdn, be_len]
  | j + 1 => by
    have := bdn_len n hk hv j
    have := hk j
    have := hv j
    unfold bdn ent
    split <;> simp only [List.length_append, be_len, List.length_nil] <;> omega
theorem body_any (n : Nd) (ka va ia : Option Addr) (kc vc ic : Nat) (w : World) (h : NA n ka va ia w) (hk : ∀ j, (n.keys.getD j []).length ≤ 36) (hv : ∀ j, (n.vals.getD j []).length ≤ 200) (hn : n.keys.length ≤ 255) (hvl : n.leaf = true → n.vals.length = n.keys.length) :
    Calls Tryz.prog 60 #[nda n ka va ia kc vc ic] w fun e w' => e = .returned (S (bdy n)) ∧ Below w.heap.size w w' := by
  have hA := (Below.refl w.heap.size w).alloc (Nat.le_refl _) (.cells #[.bool n.leaf, .slice ka n.keys.length kc, .slice va n.vals.length vc, .slice ia n.kids.length ic] 25)
  have hg := heap_alloc_new w (.cells #[.bool n.leaf, .slice ka n.keys.length kc, .slice va n.vals.length vc, .slice ia n.kids.length ic] 25)
  have hz := lt_of_row hg
  have hna := h.below hA
  have HNA := hide hna
  have HA := hide hA
  have HG := hide hg
  have HBL := hide (bdn_len n hk hv)
  have HS := hide (p := ∀ j, bdn n (j + 1) = bdn n j ++ ((be 1 (n.keys.getD j []).length ++ n.keys.getD j []) ++ (if n.leaf = true then be 1 (n.vals.getD j []).length ++ n.vals.getD j [] else []))) (fun j => rfl)
  have h0 : bdn n 0 = be 1 n.keys.length := rfl
  have hend : bdy n = bdn n n.keys.length := rfl
  rw [hend]
  clear h hA hna hg hend
  have hks := hide (unhide HNA).ks
  have hvs := hide (unhide HNA).vs
  clear HNA
  generalize bdn n = D at *
  have hV := hide hvl
  clear hvl
  unfold nda
  generalize n.keys = ks at *
  generalize n.vals = vs at *
  generalize n.kids.length = il at *
  generalize n.leaf = lf at *
  clear n
  have H1 := hide (Wt.new (w.alloc (.cells #[.bool lf, .slice ka ks.length kc, .slice va vs.length vc, .slice ia il ic] 25)))
  generalize hW : w.alloc (.cells #[.bool lf, .slice ka ks.length kc, .slice va vs.length vc, .slice ia il ic] 25) = W1 at *
  go_enter Tryz.func60, Tryz.ntmps60
  go_wp2_with fail
  refine (unhide H1).mono ?_
  rintro e w2 ⟨rfl, h2⟩
  clear hW H1
  obtain ⟨d0, d1, d2, d3⟩ := box4 (unhide HG) h2.below hz
  have hz2 : w.heap.size < w2.heap.size := Nat.lt_of_lt_of_le hz h2.below.size
  have H2 := hide (h2.num 1 ks.length (by omega) (by omega) (by omega) (by omega) (by omega) (by simp))
  clear h2
  generalize hb : W1.heap.size = b at H2 ⊢
  go_wp2_with fail
  refine (unhide H2).mono ?_
  rintro e w3 ⟨rfl, h3⟩
  clear H2 d0 d1 d2 d3 hz2
  obtain ⟨d0, d1, d2, d3⟩ := box4 (unhide HG) h3.below hz
  have hz3 : w.heap.size < w3.heap.size := Nat.lt_of_lt_of_le hz h3.below.size
  rw [List.nil_append, Int.toNat_natCast, ← h0] at h3
  have HW := hide h3
  clear h3
  go_wp2
  go_loopw [17] (fun i wr => ∃ k : Nat, k ≤ ks.length ∧ i = .int .i64 k ∧ Wt W1 b (D k) wr) (fun i _ => ks.length - (Go.RowKit.intOf i).toNat)
  case atStart => exact ⟨0, by omega, rfl, unhide HW⟩
  case round =>
    clear HW d0 d1 d2 d3 hz3
    obtain ⟨k, hk1, rfl, hw⟩ := hrel
    by_cases hlt : k < ks.length
    · have hlt' : (k : Int) < (ks.length : Int) := by omega
      have hDl := unhide HBL k
      obtain ⟨p, o, rfl, hpl, hc0⟩ := ((unhide hks).below hw.below).at hlt
      have hk36 := hk k
      have HS1 := hide (unhide HS k)
      generalize hx : ks.getD k [] = x at *
      have H3 := hide (hw.text 36 x (by omega) (by omega) (by omega))
      clear hw
      go_wp2_with fail
      refine (unhide H3).mono ?_
      rintro e w4 ⟨rfl, h4⟩
      clear hc0 hpl H3
      obtain ⟨d0, d1, d2, d3⟩ := box4 (unhide HG) h4.below hz
      have hz4 : w.heap.size < w4.heap.size := Nat.lt_of_lt_of_le hz h4.below.size
      cases lf
      · have HW := hide h4
        clear h4
        go_wp2
        go_round
        case measure => simp [Go.RowKit.intOf]; omega
        case rel =>
          refine ⟨k + 1, by omega, by simp, ?_⟩
          rw [unhide HS1]
          simpa using unhide HW
      · have hvl := unhide hV rfl
        obtain ⟨p2, o2, e2, hp2, hc2⟩ := ((unhide hvs).below h4.below).at (show k < vs.length by omega)
        subst e2
        have hv200 := hv k
        generalize hy : vs.getD k [] = y at *
        have hkv : (k : Int) < (vs.length : Int) := by omega
        clear hvl
        have H4 := hide (h4.text 200 y (by omega) (by omega) (by simp only [List.length_append, be_len]; omega))
        clear h4
        go_wp2_with fail
        refine (unhide H4).mono ?_
        rintro e w5 ⟨rfl, h5⟩
        have HW := hide h5
        clear h5 H4
        go_wp2
        go_round
        case measure => simp [Go.RowKit.intOf]; omega
        case rel =>
          refine ⟨k + 1, by omega, by simp, ?_⟩
          rw [unhide HS1, if_pos trivial, ← List.append_assoc]
          exact unhide HW
    · have hlt' : ¬ (k : Int) < (ks.length : Int) := by omega
      obtain rfl : k = ks.length := by omega
      have H5 := hide hw.done
      clear hw
      go_wp2_with fail
      refine (unhide H5).mono ?_
      rintro e w6 ⟨rfl, h6⟩
      have HB := hide ((unhide HA).trans (h6.mono (unhide HA).size))
      clear h6
      go_wp2
      go_ret
      exact ⟨rfl, unhide HB⟩
end Go.Proofs.YtllialbdofklgaaGreatDoor
