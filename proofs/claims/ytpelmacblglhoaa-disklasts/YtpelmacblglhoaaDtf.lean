import Derived.Test.YtpelmacblglhoaaDtd
namespace Go.Proofs.Ytpelmacblglhoaa
/-- What was written lasts, in the law's book: of the first m blocks. -/
def mrg (la nw : List Bs) : Nat → List Bs
  | 0 => la
  | m + 1 => if nw.getD m [] = [] then mrg la nw m else (mrg la nw m).set m (nw.getD m [])
def clr (nw : List Bs) : Nat → List Bs
  | 0 => nw
  | m + 1 => (clr nw m).set m []
theorem mrg_len (la nw : List Bs) (m : Nat) : (mrg la nw m).length = la.length := by
  induction m with
  | zero => rfl
  | succ m ih =>
    show (if _ then _ else _ : List Bs).length = _
    split
    · exact ih
    · simp [ih]
theorem clr_len (nw : List Bs) (m : Nat) : (clr nw m).length = nw.length := by
  induction m with
  | zero => rfl
  | succ m ih => simp [clr, ih]
theorem clr_at (nw : List Bs) (m i : Nat) (h : m ≤ i) : (clr nw m).getD i [] = nw.getD i [] := by
  induction m with
  | zero => rfl
  | succ m ih =>
    show ((clr nw m).set m []).getD i [] = _
    rw [List.getD_eq_getElem?_getD, List.getElem?_set_ne (by omega), ← List.getD_eq_getElem?_getD, ih (by omega)]
theorem clr_low (nw : List Bs) (m i : Nat) (h : i < m) : (clr nw m).getD i [] = [] := by
  induction m with
  | zero => omega
  | succ m ih =>
    show ((clr nw m).set m []).getD i [] = _
    by_cases q : i = m
    · subst q
      rw [List.getD_eq_getElem?_getD]
      by_cases r : i < (clr nw i).length
      · rw [List.getElem?_set_self r]; rfl
      · rw [List.getElem?_eq_none (by simp; omega)]; rfl
    · rw [List.getD_eq_getElem?_getD, List.getElem?_set_ne (by omega), ← List.getD_eq_getElem?_getD]
      exact ih (by omega)
theorem clr_all (nw : List Bs) (h : nw.length = 9) : clr nw 9 = List.replicate 9 [] := by
  apply List.ext_getElem?
  intro i
  by_cases hi : i < 9
  · rw [get_getD (z := []) (by rw [clr_len, h]; exact hi), clr_low nw 9 i hi, List.getElem?_replicate, if_pos hi]
  · rw [List.getElem?_eq_none (by rw [clr_len, h]; omega), List.getElem?_eq_none (by simp; omega)]
theorem snc_prefix (last : List Bs) (ws : List Wr) (x : Wr) (k : Nat) (hk : k ≤ ws.length) : snc last (ws ++ [x]) k = snc last ws k := by
  induction k with
  | zero => rfl
  | succ k ih =>
    have e : (ws ++ [x]).getD k (0, []) = ws.getD k (0, []) := by
      rw [List.getD_eq_getElem?_getD, List.getElem?_append_left (by omega), List.getD_eq_getElem?_getD]
    simp only [snc]
    rw [ih (by omega), e]
theorem snc_mrg (la nw : List Bs) (m : Nat) : snc la (pnd nw m) (pnd nw m).length = mrg la nw m := by
  induction m with
  | zero => rfl
  | succ m ih =>
    by_cases q : nw.getD m [] = []
    · have e1 : pnd nw (m + 1) = pnd nw m := by show (if _ then _ else _) = _; rw [if_pos q]
      have e2 : mrg la nw (m + 1) = mrg la nw m := by show (if _ then _ else _) = _; rw [if_pos q]
      rw [e1, e2, ih]
    · have e1 : pnd nw (m + 1) = pnd nw m ++ [(m, nw.getD m [])] := by show (if _ then _ else _) = _; rw [if_neg q]
      have e2 : mrg la nw (m + 1) = (mrg la nw m).set m (nw.getD m []) := by show (if _ then _ else _) = _; rw [if_neg q]
      rw [e1, e2, List.length_append, List.length_singleton]
      have ex : (pnd nw m ++ [(m, nw.getD m [])]).getD (pnd nw m).length (0, []) = (m, nw.getD m []) := by simp
      show List.set _ _ _ = _
      rw [ex, snc_prefix _ _ _ _ (Nat.le_refl _), ih]
theorem pnd_none (m : Nat) : pnd (List.replicate 9 []) m = [] := by
  induction m with
  | zero => rfl
  | succ m ih =>
    have e : (List.replicate 9 ([] : Bs)).getD m [] = [] := by
      rw [List.getD_eq_getElem?_getD, List.getElem?_replicate]
      split <;> rfl
    show (if _ then _ else _) = _
    rw [if_pos e, ih]
variable {n acts : Nat} {d : Ds} {la nw : List Bs}
theorem Alv.ok (h : Alv n acts d) (hf : d.fuse ≠ 1) : actv d = 0 ∧ Alv n (acts + 1) d.act := by
  refine ⟨by unfold actv; rw [if_neg hf], ?_⟩
  have hfu := h.fuse
  have hlt := h.lt
  unfold Ds.act
  rw [if_neg hf]
  by_cases q : n = 0
  · subst q
    rw [if_pos rfl] at hfu
    refine ⟨h.live, ?_, fun r => absurd rfl r⟩
    show max (d.fuse - 1) 0 = _
    rw [hfu, if_pos rfl]
    decide
  · rw [if_neg q] at hfu
    have := hlt q
    refine ⟨h.live, ?_, fun _ => by omega⟩
    show max (d.fuse - 1) 0 = if n = 0 then 0 else (n : Int) - ((acts + 1 : Nat) : Int)
    rw [if_neg q]
    omega
theorem Alv.die (h : Alv n acts d) (hf : d.fuse = 1) : actv d = 2 ∧ d.act = { d with dead := true } ∧ (acts : Int) = (n : Int) - 1 := by
  refine ⟨by unfold actv; rw [if_pos hf], by unfold Ds.act; rw [if_pos hf], ?_⟩
  have hfu := h.fuse
  rw [hf] at hfu
  by_cases q : n = 0
  · rw [if_pos q] at hfu; omega
  · rw [if_neg q] at hfu; omega
theorem Lgc.acted (h : Lgc acts d la nw) (hf : d.fuse ≠ 1) : Lgc (acts + 1) d.act la nw := by
  refine ⟨h.ok.act, by rw [act_ws]; exact h.ws, by rw [act_last]; exact h.ls, h.la9, h.nw9, h.txt, ?_⟩
  unfold Ds.act
  rw [if_neg hf]
  show d.acts + 1 = _
  rw [h.acts]
  simp
theorem Lgc.wrote (h : Lgc acts d la nw) {b : Nat} {s : Bs} (hb : b < 9) (hs : s.length = 512) : Lgc acts (d.put b s) la (nw.set b s) := by
  have hl : b < d.last.length := by rw [h.ls, h.la9]; exact hb
  have hne : s ≠ [] := fun q => by rw [q] at hs; simp at hs
  refine ⟨h.ok.put hl hs, ?_, h.ls, h.la9, by simp [h.nw9], fun m => ?_, h.acts⟩
  · show putW d.ws b s = _
    rw [h.ws, pnd_put nw b s h.nw9 hb hne]
  · by_cases q : m = b
    · subst q
      right
      have : (nw.set m s).getD m [] = s := by simp [h.nw9, hb]
      rw [this, hs]
    · rw [List.getD_eq_getElem?_getD, List.getElem?_set_ne (fun r => q r.symm), ← List.getD_eq_getElem?_getD]
      exact h.txt m
theorem Lgc.synced (h : Lgc acts d la nw) : Lgc acts { d with ws := [], last := snc d.last d.ws d.ws.length } (mrg la nw 9) (clr nw 9) := by
  have e : snc d.last d.ws d.ws.length = mrg la nw 9 := by rw [h.ls, h.ws, snc_mrg]
  refine ⟨⟨fun i j h1 h2 => by simp at h2, fun x hx => by simp at hx, snc_sz h.ok.sz h.ok.lt _ (Nat.le_refl _), ?_, h.ok.fuse⟩, ?_, e, by rw [mrg_len]; exact h.la9, by rw [clr_len]; exact h.nw9, fun m => ?_, h.acts⟩
  · show 8 ≤ (snc _ _ _).length ∧ (snc _ _ _).length ≤ 4096
    rw [snc_len]
    exact h.ok.len
  · show [] = _
    rw [clr_all nw h.nw9, pnd_none]
  · rw [clr_all nw h.nw9]
    left
    rw [List.getD_eq_getElem?_getD, List.getElem?_replicate]
    split <;> rfl
end Go.Proofs.Ytpelmacblglhoaa
