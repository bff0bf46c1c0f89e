import Derived.Test.YtllialbdofklgaaGreatDoorNfb
import Derived.Test.YtllialbdofklgaaGreatDoorZndg
namespace Go.Proofs.YtllialbdofklgaaGreatDoor
open Go.RowKit
set_option maxHeartbeats 4000000
set_option maxRecDepth 8000
def nki (z : Int) : Bool := decide (z < 2) || decide (4294967295 < z)
theorem isNoKid_any (x : Int) (w : World) :
    Calls Tryz.prog 120 #[I x] w fun e w' => e = .returned (.bool (nki x)) ∧ w' = w := by
  go_enter Tryz.func120, Tryz.ntmps120
  unfold nki
  by_cases h1 : x < 2
  · have h1' : decide (x < 2) = true := by rw [decide_eq_true_eq]; omega
    go_wp2
    go_ret
    exact ⟨ret_bool (by simp [h1]), rfl⟩
  · have h1' : decide (x < 2) = false := by rw [decide_eq_false_iff_not]; omega
    go_wp2
    go_ret
    exact ⟨ret_bool (by first | rfl | simp [h1']), rfl⟩
def anyI (l : List Int) : Bool := l.any nki
theorem anyi_next (l : List Int) (k : Nat) (hk : k < l.length) : anyI (l.take (k + 1)) = (anyI (l.take k) || nki (l.getD k 0)) := by
  unfold anyI
  rw [List.take_succ_eq_append_getElem hk, List.any_append]
  simp [hk]
theorem anyi_hit (l : List Int) (k : Nat) (hk : k < l.length) (h : nki (l.getD k 0) = true) : anyI l = true := by
  unfold anyI
  rw [List.any_eq_true]
  exact ⟨l.getD k 0, by rw [List.getD_eq_getElem?_getD, List.getElem?_eq_getElem hk]; exact List.getElem_mem hk, h⟩
theorem indexFuncI_any (a : Option Addr) (n cap : Nat) (l : List Int) (w : World) (hp : Ins w a n l) (hn : n ≤ 4294967296) :
    Calls Tryz.prog 132 #[.slice a n cap, .func (.func 120) #[] #[]] w fun e w' => ∃ i : Int, e = .returned (I i) ∧ (0 ≤ i ↔ anyI l = true) ∧ w' = w := by
  have hN := hp.1
  subst hN
  have HP := hide hp
  clear hp
  go_enter Tryz.func132, Tryz.ntmps132
  go_wp2
  go_loopw [8] (fun i wr => ∃ k : Nat, k ≤ l.length ∧ i = .int .i64 k ∧ anyI (l.take k) = false ∧ wr = w) (fun i _ => l.length - (Go.RowKit.intOf i).toNat)
  case atStart => exact ⟨0, by omega, rfl, rfl, rfl⟩
  case round =>
    obtain ⟨k, hk, rfl, ha, rfl⟩ := hrel
    by_cases hlt : k < l.length
    · obtain ⟨p, o, rfl, hpl, hc0⟩ := (unhide HP).at hlt
      have hlt' : (k : Int) < (l.length : Int) := by omega
      have HN := hide (anyi_next l k hlt)
      have HW := hide (anyi_hit l k hlt)
      generalize l.getD k 0 = x at *
      have H1 := hide (fun W => isNoKid_any x W)
      have HA := hide ha
      clear ha
      cases hx : nki x
      · rw [hx] at H1
        have HA2 := hide (show anyI (l.take (k + 1)) = false by rw [unhide HN, unhide HA, hx]; rfl)
        clear hx
        go_wp2_with fail
        refine (unhide H1 _).mono ?_
        rintro e w2 ⟨rfl, rfl⟩
        go_wp2
        go_round
        case measure => simp [Go.RowKit.intOf]; omega
        case rel => exact ⟨k + 1, by omega, by simp, unhide HA2, by first | trivial | rfl⟩
      · rw [hx] at H1
        have HX := hide hx
        clear hx
        go_wp2_with fail
        refine (unhide H1 _).mono ?_
        rintro e w2 ⟨rfl, rfl⟩
        go_wp2
        go_ret
        exact ⟨k, rfl, ⟨fun _ => unhide HW (unhide HX), fun _ => by omega⟩, rfl⟩
    · have hlt' : ¬ (k : Int) < (l.length : Int) := by omega
      have HA := hide ha
      clear ha
      go_wp2
      go_ret
      refine ⟨-1, rfl, ⟨fun h => by omega, fun h => ?_⟩, rfl⟩
      have := unhide HA
      rw [List.take_of_length_le (by omega), h] at this
      cases this
theorem containsFuncI_any (a : Option Addr) (n cap : Nat) (l : List Int) (w : World) (hp : Ins w a n l) (hn : n ≤ 4294967296) :
    Calls Tryz.prog 119 #[.slice a n cap, .func (.func 120) #[] #[]] w fun e w' => e = .returned (.bool (anyI l)) ∧ w' = w := by
  have H := hide (indexFuncI_any a n cap l w hp hn)
  clear hp
  go_enter Tryz.func119, Tryz.ntmps119
  go_wp2_with fail
  refine (unhide H).mono ?_
  rintro e w1 ⟨i, rfl, hi, rfl⟩
  by_cases h0 : 0 ≤ i
  · have HI := hide (hi.1 h0)
    clear hi
    go_wp2
    go_ret
    exact ⟨ret_bool (by rw [unhide HI]; first | done | rfl | simpa using h0), rfl⟩
  · have HI := hide (show anyI l = false by
      cases q : anyI l
      · rfl
      · exact absurd (hi.2 q) h0)
    clear hi
    go_wp2
    go_ret
    exact ⟨ret_bool (by rw [unhide HI]; first | done | rfl | simpa using h0), rfl⟩
/-- An inner node whose lists go together. -/
def agi (n : Nd) : Bool := decide (n.kids.length = n.keys.length + 1) && decide (n.vals.length = 0) && !anyI n.kids && unl n.kids
def agv (n : Nd) : Bool := if n.leaf then agl n else agi n
theorem agrees_inner (n : Nd) (ka va ia : Option Addr) (kc vc ic : Nat) (w : World) (h : NA n ka va ia w) (hb : NB n) (hl : n.leaf = false) :
    Calls Tryz.prog 101 #[nda n ka va ia kc vc ic] w fun e w' => e = .returned (.bool (agi n)) ∧ Below w.heap.size w w' := by
  obtain ⟨lf, ks, vs, is⟩ := n
  simp only at hl
  subst hl
  have hA := (Below.refl w.heap.size w).alloc (Nat.le_refl _) (.cells #[.bool false, .slice ka ks.length kc, .slice va vs.length vc, .slice ia is.length ic] 25)
  have his := (h.below hA).is
  have H1 := hide (containsFuncI_any ia is.length ic is _ his hb.i)
  have H2 := hide (fun q => areUnlike_any ia is.length ic is _ his q hb.i)
  have hg := heap_alloc_new w (.cells #[.bool false, .slice ka ks.length kc, .slice va vs.length vc, .slice ia is.length ic] 25)
  have b1 := hb.k
  have b2 := hb.v
  have b3 := hb.i
  simp only at b1 b2 b3
  have HA := hide hA
  have HF := hide (show agi ⟨false, ks, vs, is⟩ = (decide (is.length = ks.length + 1) && decide (vs.length = 0) && !anyI is && unl is) from rfl)
  generalize agi ⟨false, ks, vs, is⟩ = F at *
  clear h hA his hb hg
  unfold nda
  simp only
  generalize hal : anyI is = al at *
  generalize hau : unl is = au at *
  generalize hkl : ks.length = kl at *
  generalize hvl : vs.length = vl at *
  generalize hil : is.length = il at *
  clear hkl hvl hil hal hau ks vs is
  by_cases h1 : il = kl + 1
  · subst h1
    have h1' : (((kl + 1 : Nat) : Int) == ((kl : Int) + 1)) = true := by simp
    have HU := hide (unhide H2 (by omega))
    clear H2
    by_cases h2 : vl = 0
    · subst h2
      go_enter Tryz.func101, Tryz.ntmps101
      go_wp2_with fail
      refine (unhide H1).mono ?_
      rintro e w1 ⟨rfl, rfl⟩
      cases al
      · go_wp2_with fail
        refine (unhide HU).mono ?_
        rintro e w1 ⟨rfl, hb⟩
        have HB := hide ((unhide HA).trans (hb.mono (unhide HA).size))
        clear hb
        go_wp2
        go_ret
        exact ⟨ret_bool (by rw [unhide HF]; simp), unhide HB⟩
      · go_wp2
        go_ret
        exact ⟨ret_bool (by rw [unhide HF]; simp), unhide HA⟩
    · have h2' : ((vl : Int) == 0) = false := by simp; omega
      go_enter Tryz.func101, Tryz.ntmps101
      go_wp2
      go_ret
      exact ⟨ret_bool (by rw [unhide HF]; simp [h2]), unhide HA⟩
  · have h1' : ((il : Int) == ((kl : Int) + 1)) = false := by simp; omega
    clear H2
    go_enter Tryz.func101, Tryz.ntmps101
    go_wp2
    go_ret
    exact ⟨ret_bool (by rw [unhide HF]; simp [h1]), unhide HA⟩
theorem agrees_any (n : Nd) (ka va ia : Option Addr) (kc vc ic : Nat) (w : World) (h : NA n ka va ia w) (hb : NB n) :
    Calls Tryz.prog 101 #[nda n ka va ia kc vc ic] w fun e w' => e = .returned (.bool (agv n)) ∧ Below w.heap.size w w' := by
  unfold agv
  cases hl : n.leaf
  · rw [if_neg (by simp)]
    exact agrees_inner n ka va ia kc vc ic w h hb hl
  · rw [if_pos rfl]
    exact agrees_leaf n ka va ia kc vc ic w h hb hl
def hfv (n : Nd) : Bool := decide (0 < n.keys.length) && agv n
theorem hasForm_any (n : Nd) (ka va ia : Option Addr) (kc vc ic : Nat) (w : World) (h : NA n ka va ia w) (hb : NB n) :
    Calls Tryz.prog 87 #[nda n ka va ia kc vc ic] w fun e w' => e = .returned (.bool (hfv n)) ∧ Below w.heap.size w w' := by
  have hA := (Below.refl w.heap.size w).alloc (Nat.le_refl _) (.cells #[.bool n.leaf, .slice ka n.keys.length kc, .slice va n.vals.length vc, .slice ia n.kids.length ic] 25)
  have H1 := hide (agrees_any n ka va ia kc vc ic _ (h.below hA) hb)
  have b1 := hb.k
  have HA := hide hA
  unfold hfv
  generalize agv n = ag at *
  clear h hA hb
  unfold nda at *
  generalize n.keys.length = kl at *
  generalize n.vals.length = vl at *
  generalize n.kids.length = il at *
  generalize n.leaf = lf at *
  by_cases h1 : 0 < kl
  · have h1' : decide ((0 : Int) < (kl : Int)) = true := by rw [decide_eq_true_eq]; omega
    go_enter Tryz.func87, Tryz.ntmps87
    go_wp2_with fail
    refine (unhide H1).mono ?_
    rintro e w1 ⟨rfl, b⟩
    have HB := hide ((unhide HA).trans (b.mono (unhide HA).size))
    clear b
    go_wp2
    go_ret
    exact ⟨ret_bool (by simp [h1]), unhide HB⟩
  · have h1' : decide ((0 : Int) < (kl : Int)) = false := by rw [decide_eq_false_iff_not]; omega
    go_enter Tryz.func87, Tryz.ntmps87
    go_wp2
    go_ret
    exact ⟨ret_bool (by simp [h1]), unhide HA⟩
/-- Why a node is not right. -/
def wrv (n : Nd) : Nat := if hfv n then (if kok n.keys then (if 480 < n.siz then 102 else 0) else 101) else 100
theorem wrong_any (n : Nd) (ka va ia : Option Addr) (kc vc ic : Nat) (w : World) (h : NA n ka va ia w) (hb : NB n) :
    Calls Tryz.prog 59 #[nda n ka va ia kc vc ic] w fun e w' => e = .returned (I (wrv n)) ∧ Below w.heap.size w w' := by
  have hA := (Below.refl w.heap.size w).alloc (Nat.le_refl _) (.cells #[.bool n.leaf, .slice ka n.keys.length kc, .slice va n.vals.length vc, .slice ia n.kids.length ic] 25)
  have hg := heap_alloc_new w (.cells #[.bool n.leaf, .slice ka n.keys.length kc, .slice va n.vals.length vc, .slice ia n.kids.length ic] 25)
  have hz := lt_of_row hg
  have hna := h.below hA
  have H1 := hide (hasForm_any n ka va ia kc vc ic _ hna hb)
  have H2 := hide (fun W (b : Below (w.alloc (.cells #[.bool n.leaf, .slice ka n.keys.length kc, .slice va n.vals.length vc, .slice ia n.kids.length ic] 25)).heap.size (w.alloc (.cells #[.bool n.leaf, .slice ka n.keys.length kc, .slice va n.vals.length vc, .slice ia n.kids.length ic] 25)) W) => keysMayBe_any ka _ kc n.keys W (hna.below b).ks hb.k hb.kt)
  have H3 := hide (fun W (b : Below (w.alloc (.cells #[.bool n.leaf, .slice ka n.keys.length kc, .slice va n.vals.length vc, .slice ia n.kids.length ic] 25)).heap.size (w.alloc (.cells #[.bool n.leaf, .slice ka n.keys.length kc, .slice va n.vals.length vc, .slice ia n.kids.length ic] 25)) W) => size_any n ka va ia kc vc ic W (hna.below b) hb)
  have HA := hide hA
  have HG := hide hg
  have hsz : n.siz ≤ 100000000000 := by
    obtain ⟨b1, b2, b3, b4, b5⟩ := hb
    unfold Nd.siz
    split <;> omega
  unfold wrv
  generalize hfv n = c1 at *
  generalize kok n.keys = c2 at *
  generalize n.siz = sz at *
  clear h hA hb hna hg
  unfold nda at *
  generalize n.keys.length = kl at *
  generalize n.vals.length = vl at *
  generalize n.kids.length = il at *
  generalize n.leaf = lf at *
  clear n
  go_enter Tryz.func59, Tryz.ntmps59
  go_wp2_with fail
  refine (unhide H1).mono ?_
  rintro e w1 ⟨rfl, b⟩
  have HB1 := hide b
  obtain ⟨d0, d1, d2, d3⟩ := box4 (unhide HG) b hz
  have hz1 : w.heap.size < w1.heap.size := Nat.lt_of_lt_of_le hz b.size
  have h2 := hide (unhide H2 w1 b)
  clear b H2
  cases c1
  · go_wp2
    go_ret
    exact ⟨rfl, (unhide HA).trans ((unhide HB1).mono (unhide HA).size)⟩
  · go_wp2_with fail
    refine (unhide h2).mono ?_
    rintro e w2 ⟨rfl, q, rfl⟩
    have HB2 := hide (bel_q (unhide HB1) q)
    have h3 := hide (unhide H3 _ (bel_q (unhide HB1) q))
    clear H3
    cases c2
    · go_wp2
      go_ret
      exact ⟨rfl, (unhide HA).trans ((unhide HB2).mono (unhide HA).size)⟩
    · go_wp2_with fail
      refine (unhide h3).mono ?_
      rintro e w3 ⟨rfl, b3⟩
      have HB3 := hide ((unhide HA).trans (((unhide HB2).trans (b3.mono (unhide HB2).size)).mono (unhide HA).size))
      clear b3
      by_cases h : 480 < sz
      · have h' : decide ((480 : Int) < (sz : Int)) = true := by rw [decide_eq_true_eq]; omega
        go_wp2
        go_ret
        exact ⟨ret_int (by simp), unhide HB3⟩
      · have h' : decide ((480 : Int) < (sz : Int)) = false := by rw [decide_eq_false_iff_not]; omega
        go_wp2
        go_ret
        exact ⟨ret_int (by simp), unhide HB3⟩
theorem cloneI_any (a : Option Addr) (n cap : Nat) (zs : List Int) (w : World) (hI : Ins w a n zs) (hn : n ≤ 4294967296) :
    Calls Tryz.prog 61 #[.slice a n cap] w fun e w' => ∃ v, e = .returned v ∧ w'.ownsRow w.heap.size 3 1 v zs.length (zs.map (Value.int .i64)) ∧ Below w.heap.size w w' := by
  have hz := hI.1
  cases a with
  | none =>
    have h0 : n = 0 := by
      rcases Nat.eq_zero_or_pos n with q | q
      · exact q
      · obtain ⟨p, o, e, _⟩ := hI.at q; cases e
    refine Calls.mono (show Calls Tryz.prog 61 #[.slice none n cap] w fun e w' => e = .returned (.slice none 0 0) ∧ w' = w from Any.slices_Clone_int_nil Tryz.lays15 n cap w) ?_
    rintro e w' ⟨rfl, rfl⟩
    have : zs = [] := List.eq_nil_of_length_eq_zero (by omega)
    subst this
    exact ⟨_, rfl, World.ownsRow_nil _ _ _ _, Below.refl _ _⟩
  | some a =>
    rcases Nat.eq_zero_or_pos n with q | q
    · subst q
      refine Calls.mono (show Calls Tryz.prog 61 #[.slice (some a) 0 cap] w fun e w' => ∃ v', e = .returned v' ∧ w'.ownsRow w.heap.size 3 1 v' 0 [] ∧ v' ≠ .slice none 0 0 ∧ Below w.heap.size w w' from Any.slices_Clone_int_zero Tryz.lays15 a cap w) ?_
      rintro e w' ⟨v, rfl, h1, _, h3⟩
      have : zs = [] := List.eq_nil_of_length_eq_zero (by omega)
      subst this
      exact ⟨_, rfl, h1, h3⟩
    · obtain ⟨p, o, e, hc⟩ := hI.2 q
      cases e
      refine Calls.mono (show Calls Tryz.prog 61 #[.slice (some ⟨p, o, none⟩) n cap] w fun e w' => ∃ v', e = .returned v' ∧ w'.ownsRow w.heap.size 3 1 v' n ((zs.take n).map (Value.int .i64)) ∧ v' ≠ .slice none 0 0 ∧ Below w.heap.size w w' from Any.slices_Clone_int Tryz.lays15 p o n cap zs w (by omega) (by omega) (fun j hj => hc j (by omega))) ?_
      rintro e w' ⟨v, rfl, h1, _, h3⟩
      rw [List.take_of_length_le (by omega), hz] at h1
      exact ⟨_, rfl, h1, h3⟩
end Go.Proofs.YtllialbdofklgaaGreatDoor
