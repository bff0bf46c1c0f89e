import Derived.Test.YtpelmacblglhoaaDtb
namespace Go.Proofs.Ytpelmacblglhoaa
theorem sect_all (x : Bs) (h : x.length = 512) : (List.range 8).flatMap (fun s => sect s x) = x := by
  have key : ∀ k, k ≤ 8 → (List.range k).flatMap (fun s => sect s x) = x.take (64 * k) := by
    intro k
    induction k with
    | zero => intro _; simp
    | succ k ih =>
      intro hk
      rw [List.range_succ, List.flatMap_append, ih (by omega)]
      simp only [List.flatMap_cons, List.flatMap_nil, List.append_nil, sect]
      rw [show 64 * (k + 1) = 64 * k + 64 by omega, List.take_add]
  rw [key 8 (by omega), List.take_of_length_le (by omega)]
theorem torn_none (a b : Bs) (h : a.length = 512) : tornv a b 0 = a := by
  have e : ∀ s, inSet 0 s = false := by intro s; simp [inSet]
  unfold tornv tornK
  simp only [e, Bool.false_eq_true, if_false]
  exact sect_all a h
theorem crs_prefix (last : List Bs) (ws : List Wr) (x : Wr) (st : St) (k : Nat) (hk : k ≤ ws.length) : crs last (ws ++ [x]) st k = crs last ws st k := by
  induction k with
  | zero => rfl
  | succ k ih =>
    have e : (ws ++ [x]).getD k (0, []) = ws.getD k (0, []) := by
      rw [List.getD_eq_getElem?_getD, List.getElem?_append_left (by omega), List.getD_eq_getElem?_getD]
    simp only [crs]
    rw [ih (by omega), e]
theorem crs_miss (last : List Bs) (ws : List Wr) (st : St) (k m : Nat) (h : ∀ j, j < k → (ws.getD j (0, [])).1 ≠ m) : (crs last ws st k).getD m [] = last.getD m [] := by
  induction k with
  | zero => rfl
  | succ k ih =>
    simp only [crs]
    rw [List.getD_eq_getElem?_getD, List.getElem?_set_ne (h k (by omega)), ← List.getD_eq_getElem?_getD]
    exact ih (fun j hj => h j (by omega))
/-- What must stand behind the crash, by the law's own book. -/
def wnt (last now : List Bs) (ss : List Int) : Nat → List Bs
  | 0 => last
  | m + 1 => if now.getD m [] = [] then wnt last now ss m else if (pnd now m).length < ss.length then (wnt last now ss m).set m (tornv (last.getD m []) (now.getD m []) (pkv (ss.getD (pnd now m).length 0) 256)) else wnt last now ss m
theorem pnd_mono (now : List Bs) (a b : Nat) (h : a ≤ b) : (pnd now a).length ≤ (pnd now b).length := by
  induction b with
  | zero => obtain rfl : a = 0 := by omega
            exact Nat.le_refl _
  | succ b ih =>
    rcases Nat.lt_or_eq_of_le h with q | q
    · have := ih (by omega)
      show _ ≤ (if now.getD b [] = [] then pnd now b else pnd now b ++ [(b, now.getD b [])]).length
      split
      · exact this
      · simp; omega
    · rw [q]; exact Nat.le_refl _
theorem set_same (l : List Bs) (m : Nat) (h : m < l.length) : l.set m (l.getD m []) = l := by
  apply List.ext_getElem?
  intro i
  by_cases q : m = i
  · subst q
    rw [List.getElem?_set_self h]
    simp [h]
  · rw [List.getElem?_set_ne q]
theorem crs_wnt (last now : List Bs) (ss : List Int) (st : St) (n : Nat) (hl : ∀ m, m < n → (last.getD m []).length = 512) (hn : n ≤ last.length) (hst : ∀ j, j < (pnd now n).length → st.getD j none = if j < ss.length then some (pkv (ss.getD j 0) 256) else none) (m : Nat) (hm : m ≤ n) : crs last (pnd now m) st (pnd now m).length = wnt last now ss m := by
  induction m with
  | zero => rfl
  | succ m ih =>
    have ih := ih (by omega)
    by_cases q : now.getD m [] = []
    · have e1 : pnd now (m + 1) = pnd now m := by show (if _ then _ else _) = _; rw [if_pos q]
      have e2 : wnt last now ss (m + 1) = wnt last now ss m := by show (if _ then _ else _) = _; rw [if_pos q]
      rw [e1, e2, ih]
    · have e1 : pnd now (m + 1) = pnd now m ++ [(m, now.getD m [])] := by show (if _ then _ else _) = _; rw [if_neg q]
      have e2 : wnt last now ss (m + 1) = if (pnd now m).length < ss.length then (wnt last now ss m).set m (tornv (last.getD m []) (now.getD m []) (pkv (ss.getD (pnd now m).length 0) 256)) else wnt last now ss m := by show (if _ then _ else _) = _; rw [if_neg q]
      have hlt : (pnd now m).length < (pnd now n).length := by
        have := pnd_mono now (m + 1) n hm
        rw [e1] at this
        simp at this
        omega
      rw [e1, e2, List.length_append, List.length_singleton]
      have ex : (pnd now m ++ [(m, now.getD m [])]).getD (pnd now m).length (0, []) = (m, now.getD m []) := by simp
      have em : (crs last (pnd now m) st (pnd now m).length).getD m [] = last.getD m [] := crs_miss _ _ _ _ _ (fun j hj => by
        have := pnd_lt now m _ (mem_getD (z := (0, [])) hj)
        omega)
      show List.set _ _ _ = _
      rw [ex, crs_prefix _ _ _ _ _ (Nat.le_refl _), em, hst _ hlt, ih]
      rw [ih] at em
      by_cases r : (pnd now m).length < ss.length
      · rw [if_pos r, if_pos r]
        rfl
      · rw [if_neg r, if_neg r]
        show List.set _ m (tornv _ _ 0) = _
        rw [torn_none _ _ (hl m (by omega)), ← em]
        refine set_same _ _ ?_
        rw [← ih, crs_len]
        omega
/-- The keeps that the law names. -/
def ks (ss : List Int) (q : Nat) : List Kp := (List.range q).map (fun j : Nat => ((j : Int), ((pkv (ss.getD j 0) 256 : Nat) : Int)))
theorem ks_next (ss : List Int) (q : Nat) : ks ss (q + 1) = ks ss q ++ [((q : Int), ((pkv (ss.getD q 0) 256 : Nat) : Int))] := by simp [ks, List.range_succ]
theorem ks_len (ss : List Int) (q : Nat) : (ks ss q).length = q := by simp [ks]
def stv (n : Nat) (ss : List Int) (q : Nat) : St := (List.range n).map (fun j => if j < q then some (pkv (ss.getD j 0) 256) else none)
theorem stv_len (n : Nat) (ss : List Int) (q : Nat) : (stv n ss q).length = n := by simp [stv]
theorem stv_at (n : Nat) (ss : List Int) (q j : Nat) (h : j < n) : (stv n ss q).getD j none = if j < q then some (pkv (ss.getD j 0) 256) else none := by simp [stv, h]
theorem stps_ks (n : Nat) (ss : List Int) (q : Nat) (h : q ≤ n) : stps (List.replicate n none) (ks ss q) = some (stv n ss q) := by
  induction q with
  | zero =>
    show some _ = some _
    congr 1
    apply List.ext_getElem
    · simp [stv]
    · intro i h1 h2
      simp [stv]
  | succ q ih =>
    rw [ks_next, stps_append, ih (by omega)]
    simp only [stps]
    have hp := pkv_lt (ss.getD q 0) 256 (by omega)
    have hI : isS ((pkv (ss.getD q 0) 256 : Nat) : Int) = true := by
      generalize pkv (ss.getD q 0) 256 = p at hp ⊢
      simp [isS]
      omega
    have e : stp (stv n ss q) ((q : Int), ((pkv (ss.getD q 0) 256 : Nat) : Int)) = some (stv n ss (q + 1)) := by
      unfold stp
      simp only [Int.toNat_natCast]
      rw [if_neg (by omega), stv_len, if_neg (by omega), stv_at n ss q q (by omega), if_neg (by simp), if_neg (by rw [hI]; decide)]
      refine congrArg some ?_
      apply List.ext_getElem?
      intro i
      by_cases r : q = i
      · subst r
        rw [List.getElem?_set_self (by rw [stv_len]; omega), get_getD (z := none) (by rw [stv_len]; omega), stv_at n ss (q + 1) q (by omega), if_pos (by omega)]
      · rw [List.getElem?_set_ne r]
        by_cases hi : i < n
        · rw [get_getD (z := none) (by rw [stv_len]; exact hi), get_getD (z := none) (by rw [stv_len]; exact hi), stv_at n ss q i hi, stv_at n ss (q + 1) i hi]
          by_cases hq : i < q
          · rw [if_pos hq, if_pos (by omega)]
          · rw [if_neg hq, if_neg (by omega)]
        · rw [List.getElem?_eq_none (by rw [stv_len]; omega), List.getElem?_eq_none (by rw [stv_len]; omega)]
    rw [e]
end Go.Proofs.Ytpelmacblglhoaa
