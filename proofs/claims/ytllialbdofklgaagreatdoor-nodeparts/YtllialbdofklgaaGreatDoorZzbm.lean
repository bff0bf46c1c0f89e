import Derived.Test.YtllialbdofklgaaGreatDoorZzbl
import Derived.Test.YtllialbdofklgaaGreatDoorNff
namespace Go.Proofs.YtllialbdofklgaaGreatDoor
open Go.RowKit
set_option maxHeartbeats 16000000
set_option maxRecDepth 8000
theorem place_gen (lf : Bool) (ka va ia : Option Addr) (m kc vl vc il ic last : Nat) (e : Nat → Nat × Nat) (w : World) (h1 : 1 ≤ last) (hl : last ≤ 4294967296)
    (hE : ∀ W, Below w.heap.size w W → Calls Tryz.prog 96 #[.agg #[.bool lf, .slice ka m kc, .slice va vl vc, .slice ia il ic]] W fun r w' => ∃ G, r = .returned (.slice (some ⟨G, 0, none⟩) last last) ∧ Ens w' G last e ∧ Below W.heap.size W w') :
    Calls Tryz.prog 65 #[.agg #[.bool lf, .slice ka m kc, .slice va vl vc, .slice ia il ic]] w fun r w' => ∃ b, b < last ∧ (∀ j, j < last → max (e b).1 (e b).2 ≤ max (e j).1 (e j).2) ∧ (∀ j, j < b → max (e b).1 (e b).2 < max (e j).1 (e j).2) ∧ r = .returned (I (b + 1 : Nat)) ∧ Below w.heap.size w w' := by
  have hA := (Below.refl w.heap.size w).alloc (Nat.le_refl _) (.cells #[.bool lf, .slice ka m kc, .slice va vl vc, .slice ia il ic] 25)
  have hg := heap_alloc_new w (.cells #[.bool lf, .slice ka m kc, .slice va vl vc, .slice ia il ic] 25)
  generalize hW1 : w.alloc (.cells #[.bool lf, .slice ka m kc, .slice va vl vc, .slice ia il ic] 25) = W1 at hA hg
  have HA := hide hA
  have hz1 := lt_of_row hg
  have H1 := hide (hE W1 hA)
  obtain ⟨c0, c1, c2, c3⟩ := box4 hg (Below.refl _ _) hz1
  clear hA hg hE
  go_enter Tryz.func65, Tryz.ntmps65
  go_wp2_with fail
  refine (unhide H1).mono ?_
  rintro r w2 ⟨G, rfl, hE2, b2⟩
  have HB2 := hide ((unhide HA).trans (b2.mono (unhide HA).size))
  have HE2 := hide hE2
  have H2 := hide (minFunc_any G last last e w2 hE2 hl (by omega))
  clear hE2 b2 H1 c0 c1 c2 c3 hW1 hz1 HA
  go_wp2_with fail
  refine (unhide H2).mono ?_
  rintro r w3 ⟨b, hb, hmn, hfs, rfl, b3⟩
  have HMN := hide (And.intro hmn hfs)
  have HE3 := hide ((unhide HE2).below b3)
  have HB3 := hide ((unhide HB2).trans (b3.mono (unhide HB2).size))
  clear hmn hfs b3 H2 HE2 HB2
  go_wp2
  have hMx := heap_alloc_new w3 (.cells #[I (e b).1, I (e b).2] 114)
  have hb4 := (Below.refl w3.heap.size w3).alloc (Nat.le_refl _) (.cells #[I (e b).1, I (e b).2] 114)
  generalize w3.alloc (.cells #[I (e b).1, I (e b).2] 114) = W4 at hMx hb4 ⊢
  have HE4 := hide ((unhide HE3).below hb4)
  have HB4 := hide ((unhide HB3).trans (hb4.mono (unhide HB3).size))
  obtain ⟨x0, x1⟩ := box2 hMx (Below.refl _ _) (lt_of_row hMx)
  have hml := lt_of_row hMx
  clear HE3 HB3 hb4 hMx
  go_loopw [5] (fun i wr => ∃ k q : Nat, k ≤ b ∧ i = .int .i64 k ∧ (∀ j, j < k → e j ≠ e b) ∧ wr = W4.drewN q) (fun i _ => last - (Go.RowKit.intOf i).toNat)
  case atStart => exact ⟨0, 0, by omega, rfl, fun j hj => by omega, rfl⟩
  case round =>
    obtain ⟨k, q, hk, rfl, hne, rfl⟩ := hrel
    have hkl : (k : Int) < (last : Int) := by omega
    have d0 := (unhide HE4).at0 k (by omega)
    have d1 := (unhide HE4).at1 k (by omega)
    have hgl := (unhide HE4).lt
    have HNE := hide hne
    by_cases he : e k = e b
    · have HK := hide he
      rw [he] at d0 d1
      clear hne he
      generalize (e b).1 = z0 at d0 d1 x0 x1 ⊢
      generalize (e b).2 = z1 at d0 d1 x0 x1 ⊢
      go_wp2
      go_region
      all_goals (
        go_wp2
        go_ret
        obtain ⟨hmn, hfs⟩ := unhide HMN
        have he := unhide HK
        refine ⟨k, by omega, fun j hj => by rw [he]; exact hmn j hj, fun j hj => by rw [he]; exact hfs j (by omega), ret_int (by omega), bel_q (unhide HB4) _⟩)
    · have hkb : k < b := by
        rcases Nat.lt_or_ge k b with r | r
        · exact r
        · exact absurd (by rw [show k = b by omega]) he
      have HN2 := hide (show ∀ j, j < k + 1 → e j ≠ e b from fun j hj => by
        rcases Nat.lt_or_ge j k with r | r
        · exact hne j r
        · rw [show j = k by omega]; exact he)
      clear hne
      have HKK := hide (show ¬ ((e k).1 = (e b).1 ∧ (e k).2 = (e b).2) from fun q => he (Prod.ext q.1 q.2))
      clear he
      generalize (e k).1 = y0 at d0 d1 HKK
      generalize (e k).2 = y1 at d0 d1 HKK
      generalize (e b).1 = z0 at x0 x1 HKK ⊢
      generalize (e b).2 = z1 at x0 x1 HKK ⊢
      by_cases h0 : y0 = z0
      · have h2 : ¬ (y1 : Int) = (z1 : Int) := fun q => unhide HKK ⟨h0, by omega⟩
        have h3 : (y0 : Int) = (z0 : Int) := by omega
        clear HKK h0
        go_wp2
        go_region
        all_goals (
          go_wp2
          go_roundw
          case rel => exact ⟨k + 1, q + 1, by omega, by go_num, unhide HN2, by first | rfl | trivial | simp⟩
          case measure => simp [Go.RowKit.intOf]; omega)
      · have h2 : ¬ (y0 : Int) = (z0 : Int) := by omega
        clear HKK h0
        go_wp2
        go_region
        all_goals (
          go_wp2
          go_roundw
          case rel => exact ⟨k + 1, q + 1, by omega, by go_num, unhide HN2, by first | rfl | trivial | simp⟩
          case measure => simp [Go.RowKit.intOf]; omega)
end Go.Proofs.YtllialbdofklgaaGreatDoor
namespace Go.Proofs.YtllialbdofklgaaGreatDoor
open Go.RowKit
/-! ### A body is read as what it was laid of, and laid as it was read -/
def lay1 (s : Bs) : Bs := be 1 s.length ++ s
def entL : List Bs → List Bs → Bs
  | k :: ks, v :: vs => lay1 k ++ (lay1 v ++ entL ks vs)
  | _, _ => []
def entI : List Bs → Bs
  | k :: ks => lay1 k ++ entI ks
  | [] => []
theorem entL_snoc (k v : Bs) : ∀ (a b : List Bs), a.length = b.length → entL (a ++ [k]) (b ++ [v]) = entL a b ++ (lay1 k ++ lay1 v)
  | [], [], _ => by simp [entL]
  | [], _ :: _, h => by simp at h
  | _ :: _, [], h => by simp at h
  | x :: a, y :: b, h => by
    have := entL_snoc k v a b (by simpa using h)
    simp only [List.cons_append, entL, this, List.append_assoc]
theorem entI_snoc (k : Bs) : ∀ (a : List Bs), entI (a ++ [k]) = entI a ++ lay1 k
  | [] => by simp [entI]
  | x :: a => by
    have := entI_snoc k a
    simp only [List.cons_append, entI, this, List.append_assoc]
theorem take_at (l : List Bs) (j : Nat) (hj : j < l.length) : l.take (j + 1) = l.take j ++ [l.getD j []] := by
  rw [List.take_succ_eq_append_getElem hj, List.getD_eq_getElem?_getD, List.getElem?_eq_getElem hj]
  rfl
theorem drop_at (l : List Bs) (j : Nat) (hj : j < l.length) : l.drop j = l.getD j [] :: l.drop (j + 1) := by
  rw [List.drop_eq_getElem_cons hj, List.getD_eq_getElem?_getD, List.getElem?_eq_getElem hj]
  rfl
theorem bdn_leaf (n : Nd) (hl : n.leaf = true) (hv : n.vals.length = n.keys.length) : ∀ j, j ≤ n.keys.length → bdn n j = be 1 n.keys.length ++ entL (n.keys.take j) (n.vals.take j)
  | 0, _ => by simp [bdn, entL]
  | j + 1, h => by
    rw [bdn, bdn_leaf n hl hv j (by omega), take_at _ _ (by omega), take_at _ _ (by omega), entL_snoc _ _ _ _ (by simp only [List.length_take]; omega), List.append_assoc]
    unfold ent lay1
    rw [hl, if_pos rfl]
theorem bdn_inner (n : Nd) (hl : n.leaf = false) : ∀ j, j ≤ n.keys.length → bdn n j = be 1 n.keys.length ++ entI (n.keys.take j)
  | 0, _ => by simp [bdn, entI]
  | j + 1, h => by
    rw [bdn, bdn_inner n hl j (by omega), take_at _ _ (by omega), entI_snoc, List.append_assoc]
    unfold ent lay1
    rw [hl, if_neg (by simp), List.append_nil]
theorem bdy_leaf (n : Nd) (hl : n.leaf = true) (hv : n.vals.length = n.keys.length) : bdy n = be 1 n.keys.length ++ entL n.keys n.vals := by
  unfold bdy
  rw [bdn_leaf n hl hv _ (Nat.le_refl _), List.take_length, ← hv, List.take_length]
theorem bdy_inner (n : Nd) (hl : n.leaf = false) : bdy n = be 1 n.keys.length ++ entI n.keys := by
  unfold bdy
  rw [bdn_inner n hl _ (Nat.le_refl _), List.take_length]
theorem ahd_1 (most : Nat) (hm : most ≤ 255) : ahd (most : Int) = 1 := by unfold ahd; rw [if_pos (by omega)]
theorem nat_be1 (n : Nat) (h : n ≤ 255) : nat (be 1 n) = n := by rw [nat_be, Nat.mod_eq_of_lt]; omega
theorem lay1_take (s z : Bs) : (lay1 s ++ z).take 1 = be 1 s.length := by
  unfold lay1
  rw [List.append_assoc, List.take_append_of_le_length (by rw [be_len]; omega), List.take_of_length_le (by rw [be_len]; omega)]
theorem lay1_drop (s z : Bs) : (lay1 s ++ z).drop 1 = s ++ z := by
  unfold lay1
  rw [List.append_assoc, List.drop_append_of_le_length (by rw [be_len]; omega), List.drop_of_length_le (by rw [be_len]; omega), List.nil_append]
theorem lay1_len (s : Bs) : (lay1 s).length = s.length + 1 := by unfold lay1; rw [List.length_append, be_len]; omega
theorem txt_ok (most : Nat) (s z : Bs) (hm : most ≤ 255) (hs : s.length ≤ most) : tv most (lay1 s ++ z, 0) = s ∧ ts most (lay1 s ++ z, 0) = (z, 0) := by
  have h1 : rTextE most (lay1 s ++ z) = 0 := by
    unfold rTextE
    rw [if_pos ⟨by omega, by omega⟩, ahd_1 most hm, lay1_take, nat_be1 _ (by omega), List.length_append, lay1_len, if_neg (by omega), if_neg (by omega), if_neg (by omega)]
  constructor
  · unfold tv
    simp only [h1, fine_ok, if_true]
    unfold rTextS
    rw [ahd_1 most hm, lay1_take, nat_be1 _ (by omega), lay1_drop]
    exact List.take_left' rfl
  · unfold ts
    simp only [h1, rGo_ok]
    unfold rTextK
    rw [ahd_1 most hm, lay1_take, nat_be1 _ (by omega), ← List.drop_drop, lay1_drop, List.drop_left' rfl]
theorem gF_laid (ks vs : List Bs) (hv : vs.length = ks.length) (hk : ∀ j, (ks.getD j []).length ≤ 36) (hw : ∀ j, (vs.getD j []).length ≤ 200) : ∀ j, j ≤ ks.length → gF j (entL ks vs, 0) = (ks.take j, vs.take j, (entL (ks.drop j) (vs.drop j), 0))
  | 0, _ => by simp [gF]
  | j + 1, h => by
    have ih := gF_laid ks vs hv hk hw j (by omega)
    have e : entL (ks.drop j) (vs.drop j) = lay1 (ks.getD j []) ++ (lay1 (vs.getD j []) ++ entL (ks.drop (j + 1)) (vs.drop (j + 1))) := by
      rw [drop_at ks j (by omega), drop_at vs j (by omega)]
      rfl
    rw [gF, ih, take_at ks j (by omega), take_at vs j (by omega)]
    simp only
    rw [e, (txt_ok 36 _ _ (by omega) (hk j)).1, (txt_ok 36 _ _ (by omega) (hk j)).2, (txt_ok 200 _ _ (by omega) (hw j)).1, (txt_ok 200 _ _ (by omega) (hw j)).2]
theorem iF_laid (ks : List Bs) (hk : ∀ j, (ks.getD j []).length ≤ 36) : ∀ j, j ≤ ks.length → iF j (entI ks, 0) = (ks.take j, (entI (ks.drop j), 0))
  | 0, _ => by simp [iF]
  | j + 1, h => by
    have ih := iF_laid ks hk j (by omega)
    have e : entI (ks.drop j) = lay1 (ks.getD j []) ++ entI (ks.drop (j + 1)) := by
      rw [drop_at ks j (by omega)]
      rfl
    rw [iF, ih, take_at ks j (by omega)]
    simp only
    rw [e, (txt_ok 36 _ _ (by omega) (hk j)).1, (txt_ok 36 _ _ (by omega) (hk j)).2]
theorem num_ok (n : Nat) (z : Bs) (hn : n ≤ 255) : gN (be 1 n ++ z) = n ∧ rs 1 (be 1 n ++ z, 0) = (z, 0) := by
  have h0 : rNumE ((1 : Nat) : Int) (be 1 n ++ z) = 0 := by
    unfold rNumE
    rw [if_pos ⟨by omega, by omega⟩, List.length_append, be_len, if_neg (by omega), if_neg (by omega)]
  have h1 : (be 1 n ++ z).take 1 = be 1 n := by rw [List.take_append_of_le_length (by rw [be_len]; omega), List.take_of_length_le (by rw [be_len]; omega)]
  constructor
  · unfold gN rv
    simp only [h0, fine_ok, if_true, h1]
    rw [nat_be1 n hn]
    omega
  · unfold rs
    simp only [h0, rGo_ok]
    rw [List.drop_left' (be_len 1 n)]
theorem read_leaf (n : Nd) (hl : n.leaf = true) (h : wrv n = 0) : gK (bdy n) = n.keys ∧ gV (bdy n) = n.vals ∧ gE (bdy n) = 0 := by
  obtain ⟨h1, h2, h3, h4, -⟩ := wrv_ok h
  have hv := h4 hl
  obtain ⟨a, b⟩ := num_ok n.keys.length (entL n.keys n.vals) h3
  have q := gF_laid n.keys n.vals hv h1 h2 n.keys.length (Nat.le_refl _)
  rw [List.take_length, ← hv, List.take_length, List.drop_length, hv, List.drop_length] at q
  unfold gK gV gE
  rw [bdy_leaf n hl hv, a, b, q]
  exact ⟨rfl, rfl, rfl⟩
theorem read_inner (n : Nd) (hl : n.leaf = false) (h : wrv n = 0) : iK (bdy n) = n.keys ∧ iE (bdy n) = 0 := by
  obtain ⟨h1, h2, h3, h4, -⟩ := wrv_ok h
  obtain ⟨a, b⟩ := num_ok n.keys.length (entI n.keys) h3
  have q := iF_laid n.keys h1 n.keys.length (Nat.le_refl _)
  rw [List.take_length, List.drop_length] at q
  unfold iK iE
  rw [bdy_inner n hl, a, b, q]
  exact ⟨rfl, rfl⟩
theorem wrv_form {n : Nd} (h : wrv n = 0) : hfv n = true ∧ kok n.keys = true ∧ n.siz ≤ 480 := by
  unfold wrv at h
  cases h1 : hfv n
  · rw [h1] at h; cases h
  cases h2 : kok n.keys
  · rw [h1, h2] at h; cases h
  rw [h1, h2, if_pos rfl, if_pos rfl] at h
  exact ⟨rfl, rfl, Nat.le_of_not_lt fun q => by rw [if_pos q] at h; cases h⟩
/-- A right node comes back from its page. -/
theorem there (n : Nd) (h : wrv n = 0) : pok (pvk n) (pvl n) (pvb n) = true ∧ pnd (pvk n) (pvl n) (pvb n) = n := by
  obtain ⟨hf, -, -⟩ := wrv_form h
  unfold hfv at hf
  rw [Bool.and_eq_true] at hf
  have hf := hf.2
  unfold agv at hf
  have key : pnd (pvk n) (pvl n) (pvb n) = n ∧ isn (pvk n) (pvl n).length = true ∧ pee (pvk n) (pvb n) = 0 := by
    cases hl : n.leaf
    · rw [hl, if_neg (by simp)] at hf
      unfold agi at hf
      simp only [Bool.and_eq_true, decide_eq_true_eq] at hf
      have hv : n.vals = [] := List.eq_nil_of_length_eq_zero hf.1.1.2
      have ek : pvk n = 2 := by unfold pvk; rw [if_pos h, hl]; rfl
      have el : pvl n = n.kids := by unfold pvl; rw [if_pos h, hl]; rfl
      have eb : pvb n = bdy n := by unfold pvb; rw [if_pos h]
      obtain ⟨q1, q2⟩ := read_inner n hl h
      rw [ek, el, eb]
      refine ⟨?_, by simp [isn], by simpa [pee] using q2⟩
      unfold pnd
      rw [if_pos rfl, q1]
      cases n
      simp only at hl hv
      rw [hl, hv]
    · rw [hl, if_pos rfl] at hf
      unfold agl at hf
      simp only [Bool.and_eq_true, decide_eq_true_eq] at hf
      have hk : n.kids = [] := List.eq_nil_of_length_eq_zero hf.1.2
      have ek : pvk n = 1 := by unfold pvk; rw [if_pos h, hl]; rfl
      have el : pvl n = [] := by unfold pvl; rw [if_pos h, hl]; rfl
      have eb : pvb n = bdy n := by unfold pvb; rw [if_pos h]
      obtain ⟨q1, q2, q3⟩ := read_leaf n hl h
      rw [ek, el, eb]
      refine ⟨?_, by simp [isn], by simpa [pee] using q3⟩
      unfold pnd
      rw [if_neg (by omega), q1, q2]
      cases n
      simp only at hl hk
      rw [hl, hk]
  obtain ⟨k1, k2, k3⟩ := key
  refine ⟨?_, k1⟩
  unfold pok
  rw [k1, k2, k3, h]
  rfl
theorem txt_back (most : Nat) (s : Bs × Nat) (hm : most ≤ 255) (h : (ts most s).2 = 0) : s.2 = 0 ∧ s.1 = lay1 (tv most s) ++ (ts most s).1 := by
  obtain ⟨R, E⟩ := s
  unfold ts at h ⊢
  simp only at h ⊢
  by_cases hE : E = 0
  · subst hE
    by_cases he : rTextE most R = 0
    · refine ⟨rfl, ?_⟩
      rw [he, rGo_ok]
      simp only
      unfold tv
      simp only [he, fine_ok, if_true]
      unfold rTextE at he
      rw [if_pos ⟨by omega, by omega⟩, ahd_1 most hm] at he
      split at he
      · cases he
      split at he
      · cases he
      split at he
      · cases he
      unfold rTextS rTextK lay1
      rw [ahd_1 most hm]
      have e1 : ((R.drop 1).take (nat (R.take 1))).length = nat (R.take 1) := by rw [List.length_take, List.length_drop]; omega
      have e2 : be 1 (nat (R.take 1)) = R.take 1 := by
        have := be_nat (R.take 1)
        rwa [List.length_take, Nat.min_eq_left (by omega)] at this
      rw [e1, e2, ← List.drop_drop, List.append_assoc, List.take_append_drop, List.take_append_drop]
    · rw [rGo_bad he] at h
      exact absurd h he
  · rw [rGo_old hE] at h
    exact absurd h hE
theorem gF_back (s : Bs × Nat) : ∀ j, (gF j s).2.2.2 = 0 → s.2 = 0 ∧ s.1 = entL (gF j s).1 (gF j s).2.1 ++ (gF j s).2.2.1
  | 0, h => by simpa [gF, entL] using h
  | j + 1, h => by
    simp only [gF] at h ⊢
    obtain ⟨a1, a2⟩ := txt_back 200 _ (by omega) h
    obtain ⟨b1, b2⟩ := txt_back 36 _ (by omega) a1
    obtain ⟨c1, c2⟩ := gF_back s j b1
    refine ⟨c1, ?_⟩
    have hl := gF_len j s
    rw [entL_snoc _ _ _ _ (by omega), List.append_assoc, List.append_assoc, ← a2, ← b2]
    exact c2
theorem iF_back (s : Bs × Nat) : ∀ j, (iF j s).2.2 = 0 → s.2 = 0 ∧ s.1 = entI (iF j s).1 ++ (iF j s).2.1
  | 0, h => by simpa [iF, entI] using h
  | j + 1, h => by
    simp only [iF] at h ⊢
    obtain ⟨b1, b2⟩ := txt_back 36 _ (by omega) h
    obtain ⟨c1, c2⟩ := iF_back s j b1
    refine ⟨c1, ?_⟩
    rw [entI_snoc, List.append_assoc, ← b2]
    exact c2
theorem num_back (x : Bs) (h : (rs 1 (x, 0)).2 = 0) : x = be 1 (gN x) ++ (rs 1 (x, 0)).1 := by
  unfold rs at h ⊢
  simp only at h ⊢
  by_cases he : rNumE ((1 : Nat) : Int) x = 0
  · rw [he, rGo_ok]
    simp only
    unfold gN rv
    simp only [he, fine_ok, if_true]
    unfold rNumE at he
    rw [if_pos ⟨by omega, by omega⟩] at he
    split at he
    · cases he
    have e2 : be 1 (nat (x.take 1)) = x.take 1 := by
      have := be_nat (x.take 1)
      rwa [List.length_take, Nat.min_eq_left (by omega)] at this
    rw [Int.toNat_natCast, e2, List.take_append_drop]
  · rw [rGo_bad he] at h
    exact absurd h he
theorem done_back {R : Bs} {E : Nat} (h : rDone R E = 0) : E = 0 ∧ R = [] := by
  unfold rDone at h
  split at h
  · rename_i q; exact absurd h q
  · rename_i q
    split at h
    · rename_i q2; exact ⟨by omega, q2⟩
    · cases h
/-- A page that is read is laid down as it was. -/
theorem back (k : Int) (L : List Int) (x : Bs) (h : pok k L x = true) : wrv (pnd k L x) = 0 ∧ pvk (pnd k L x) = k ∧ pvl (pnd k L x) = L ∧ pvb (pnd k L x) = x := by
  unfold pok at h
  simp only [Bool.and_eq_true, decide_eq_true_eq] at h
  obtain ⟨h1, h2, h3⟩ := h
  refine ⟨h3, ?_⟩
  by_cases hk : k = 2
  · subst hk
    have e : pnd 2 L x = ⟨false, iK x, [], L⟩ := by unfold pnd; rw [if_pos rfl]
    rw [e] at h3 ⊢
    refine ⟨by unfold pvk; rw [if_pos h3]; rfl, by unfold pvl; rw [if_pos h3]; rfl, ?_⟩
    unfold pvb
    rw [if_pos h3, bdy_inner _ rfl]
    simp only [pee, if_true] at h2
    unfold iE at h2
    obtain ⟨q1, q2⟩ := done_back h2
    obtain ⟨c1, c2⟩ := iF_back _ _ q1
    rw [q2, List.append_nil] at c2
    have hl : (iK x).length = gN x := iF_len _ _
    have := num_back x c1
    show be 1 (iK x).length ++ entI (iK x) = x
    rw [hl]
    unfold iK
    rw [← c2]
    exact this.symm
  · unfold isn at h1
    simp only [hk, decide_false, Bool.false_or, Bool.and_eq_true, decide_eq_true_eq] at h1
    obtain ⟨rfl, hL⟩ := h1
    have hL : L = [] := List.eq_nil_of_length_eq_zero hL
    subst hL
    have e : pnd 1 [] x = ⟨true, gK x, gV x, []⟩ := by unfold pnd; rw [if_neg (by omega)]
    rw [e] at h3 ⊢
    refine ⟨by unfold pvk; rw [if_pos h3]; rfl, by unfold pvl; rw [if_pos h3]; rfl, ?_⟩
    have hl := gF_len (gN x) (rs 1 (x, 0))
    unfold pvb
    rw [if_pos h3, bdy_leaf _ rfl (show (gV x).length = (gK x).length by unfold gV gK; rw [hl.1, hl.2])]
    have h2 : gE x = 0 := by unfold pee at h2; rwa [if_neg (by omega)] at h2
    unfold gE at h2
    obtain ⟨q1, q2⟩ := done_back h2
    obtain ⟨c1, c2⟩ := gF_back _ _ q1
    rw [q2, List.append_nil] at c2
    have := num_back x c1
    show be 1 (gK x).length ++ entL (gK x) (gV x) = x
    rw [show (gK x).length = gN x from hl.1]
    unfold gK gV
    rw [← c2]
    exact this.symm
theorem siz_bdy (n : Nd) (h : wrv n = 0) : (pvb n).length + 4 * (pvl n).length ≤ 481 := by
  obtain ⟨hf, -, hs⟩ := wrv_form h
  obtain ⟨h1, h2, h3, h4, -⟩ := wrv_ok h
  have entL_len : ∀ (a b : List Bs), a.length = b.length → (entL a b).length = 2 * a.length + tot a + tot b := by
    intro a
    induction a with
    | nil => intro b hb; cases b <;> simp [entL, tot] at hb ⊢
    | cons k ks ih =>
      intro b hb
      cases b with
      | nil => simp at hb
      | cons v vs =>
        have := ih vs (by simpa using hb)
        simp only [entL, List.length_append, lay1_len, this, tot, List.map_cons, List.sum_cons, List.length_cons]
        omega
  have entI_len : ∀ (a : List Bs), (entI a).length = a.length + tot a := by
    intro a
    induction a with
    | nil => simp [entI, tot]
    | cons k ks ih =>
      simp only [entI, List.length_append, lay1_len, ih, tot, List.map_cons, List.sum_cons, List.length_cons]
      omega
  unfold pvb pvl
  rw [if_pos h, if_pos h]
  unfold Nd.siz at hs
  cases hl : n.leaf
  · rw [hl, if_neg (by simp)] at hs
    rw [bdy_inner n hl, if_neg (by simp), List.length_append, be_len, entI_len]
    omega
  · have hv := h4 hl
    rw [hl, if_pos rfl] at hs
    rw [bdy_leaf n hl hv, if_pos rfl, List.length_append, be_len, entL_len _ _ hv.symm, List.length_nil]
    omega
end Go.Proofs.YtllialbdofklgaaGreatDoor
