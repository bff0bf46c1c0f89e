import Derived.Test.YtpelmacblglhoaaZzay
namespace Go.Proofs.Ytpelmacblglhoaa
open Go.RowKit
set_option maxHeartbeats 4000000
set_option maxRecDepth 8000
theorem Only.drawn {P : Nat → Prop} {w w' : World} (h : Only P w w') : Only P w w'.drew := ⟨h.os, h.tape, h.output, h.size, h.block⟩
/-- What lasts, when the first k blocks were synced. -/
def syL (r : Rd) (k : Nat) : List Bs := (List.range r.l.length).map fun i => if decide (i < k) && r.is.getD i false then r.p.getD i [] else r.l.getD i []
def syI (r : Rd) (k : Nat) : List Bool := (List.range r.is.length).map fun i => if i < k then false else r.is.getD i false
theorem range_getD {α : Type} (f : Nat → α) (z : α) (n i : Nat) : ((List.range n).map f).getD i z = if i < n then f i else z := by
  by_cases h : i < n
  · simp [h]
  · simp [h]
theorem list_ext {α : Type} (z : α) {a b : List α} (hl : a.length = b.length) (h : ∀ i, i < a.length → a.getD i z = b.getD i z) : a = b := by
  apply List.ext_getElem hl
  intro i h1 h2
  have := h i h1
  simpa [h1, h2] using this
theorem set_getD {α : Type} (l : List α) (z x : α) (k i : Nat) : (l.set k x).getD i z = if i = k ∧ k < l.length then x else l.getD i z := by
  simp only [List.getD_eq_getElem?_getD, List.getElem?_set]
  by_cases h : k = i
  · subst h
    by_cases h2 : k < l.length
    · simp [h2]
    · simp [h2]
  · have : ¬ i = k := fun q => h q.symm
    simp [h, this]
theorem syL_len (r : Rd) (k : Nat) : (syL r k).length = r.l.length := by simp [syL]
theorem syI_len (r : Rd) (k : Nat) : (syI r k).length = r.is.length := by simp [syI]
theorem syL_zero (r : Rd) : syL r 0 = r.l := by
  apply list_ext [] (syL_len r 0)
  intro i hi
  rw [syL_len] at hi
  simp only [syL]
  rw [range_getD, if_pos hi]
  simp
theorem syI_zero (r : Rd) : syI r 0 = r.is := by
  apply list_ext false (syI_len r 0)
  intro i hi
  rw [syI_len] at hi
  simp only [syI]
  rw [range_getD, if_pos hi]
  simp
theorem syL_yes (r : Rd) (k : Nat) (hk : k < r.l.length) (h : r.is.getD k false = true) : (syL r k).set k (r.p.getD k []) = syL r (k + 1) := by
  apply list_ext [] (by rw [List.length_set, syL_len, syL_len])
  intro i hi
  rw [List.length_set, syL_len] at hi
  rw [set_getD, syL_len]
  simp only [syL]
  rw [range_getD, range_getD, if_pos hi]
  by_cases e : i = k
  · subst e; rw [if_pos ⟨rfl, hk⟩, if_pos hi, h, if_pos (by simp)]
  · rw [if_neg (fun q => e q.1), if_pos hi, show decide (i < k + 1) = decide (i < k) by (congr 1; apply propext; omega)]
theorem syL_no (r : Rd) (k : Nat) (h : r.is.getD k false = false) : syL r k = syL r (k + 1) := by
  apply list_ext [] (by rw [syL_len, syL_len])
  intro i hi
  rw [syL_len] at hi
  simp only [syL]
  rw [range_getD, range_getD, if_pos hi, if_pos hi]
  by_cases e : i = k
  · subst e; rw [h]; simp
  · rw [show decide (i < k + 1) = decide (i < k) by (congr 1; apply propext; omega)]
theorem syI_yes (r : Rd) (k : Nat) (hk : k < r.is.length) : (syI r k).set k false = syI r (k + 1) := by
  apply list_ext false (by rw [List.length_set, syI_len, syI_len])
  intro i hi
  rw [List.length_set, syI_len] at hi
  rw [set_getD, syI_len]
  simp only [syI]
  rw [range_getD, range_getD, if_pos hi, if_pos hi]
  by_cases e : i = k
  · subst e; rw [if_pos ⟨rfl, hk⟩, if_pos (by omega)]
  · rw [if_neg (fun q => e q.1)]
    by_cases h : i < k
    · rw [if_pos h, if_pos (by omega)]
    · rw [if_neg h, if_neg (by omega)]
theorem syI_no (r : Rd) (k : Nat) (h : r.is.getD k false = false) : syI r k = syI r (k + 1) := by
  apply list_ext false (by rw [syI_len, syI_len])
  intro i hi
  rw [syI_len] at hi
  simp only [syI]
  rw [range_getD, range_getD, if_pos hi, if_pos hi]
  by_cases e : i = k
  · subst e; rw [h]; simp
  · by_cases h : i < k
    · rw [if_pos h, if_pos (by omega)]
    · rw [if_neg h, if_neg (by omega)]
theorem syL_at (r : Rd) (k : Nat) (hk : k < r.l.length) : (syL r k).getD k [] = r.l.getD k [] := by
  simp only [syL]
  rw [range_getD, if_pos hk]
  simp
theorem syI_at (r : Rd) (k : Nat) (hk : k < r.is.length) : (syI r k).getD k false = r.is.getD k false := by
  simp only [syI]
  rw [range_getD, if_pos hk]
  simp
def Rd.sy (r : Rd) (k : Nat) : Rd := { r with l := syL r k, is := syI r k }
def syncr (r : Rd) : Int := if r.dead then 2 else if r.left = 1 then 2 else 0
def Rd.sync (r : Rd) : Rd := if r.dead then r else if r.left = 1 then r.act else r.act.sy r.l.length
section
variable {X : Nat} {r r' : Rd} {vl vi vp : Value} {w w' : World}
theorem rSync_any (h : RAt X r vl vi vp w) (h8 : 8 ≤ r.l.length) (hm : r.l.length ≤ 4096) (hf : 0 ≤ r.left ∧ r.left ≤ 9223372036854775807) (ha : 0 ≤ r.done ∧ r.done ≤ 1000000000000000000) : Calls Try.prog 34 #[ptr X] w fun e w' => e = .returned (I (syncr r)) ∧ RAt X r.sync vl vi vp w' ∧ Only (OfR X vl vi vp) w w' := by
  obtain ⟨c0, c1, c2, c3, c4, c5⟩ := h.c
  have hl := h.lt
  have H := hide h
  cases hd : r.dead with
  | true =>
    have e1 : syncr r = 2 := by simp [syncr, hd]
    have e2 : r.sync = r := by simp [Rd.sync, hd]
    rw [hd] at c4
    rw [e1, e2]
    clear h e1 e2
    go_enter Try.func34, Try.ntmps34
    go_wp2
    go_ret
    exact ⟨rfl, unhide H, Only.refl _ _⟩
  | false =>
    rw [hd] at c4
    have HA := hide (rAct_any h hd hf ha)
    obtain ⟨ql, qi, qp⟩ := act_rows r
    obtain ⟨gl, cl, gi, ci, gp, cp, rfl, rfl, rfl, -⟩ := h.at 0 (by omega)
    by_cases h3 : r.left = 1
    · have e1 : syncr r = 2 := by simp [syncr, hd, h3]
      have e2 : r.sync = r.act := by simp [Rd.sync, hd, h3]
      rw [e1, e2]
      have et : decide (r.left = 1) = true := decide_eq_true h3
      rw [et] at HA
      clear h e1 e2 et H
      generalize r.l.length = x at *
      go_enter Try.func34, Try.ntmps34
      go_wp2_with fail
      refine (unhide HA).mono ?_
      rintro e w1 ⟨rfl, r1, o1⟩
      have HR := hide (And.intro r1 (o1.mono (Q := OfR X (.slice (some ⟨gl, 0, none⟩) x cl) (.slice (some ⟨gi, 0, none⟩) x ci) (.slice (some ⟨gp, 0, none⟩) x cp)) fun k _ q => Or.inl q))
      clear r1 o1
      go_wp2
      go_ret
      exact ⟨rfl, (unhide HR).1, (unhide HR).2⟩
    · have e1 : syncr r = 0 := by simp [syncr, hd, h3]
      have e2 : r.sync = r.act.sy r.l.length := by simp [Rd.sync, hd, h3]
      rw [e1, e2]
      have et : decide (r.left = 1) = false := decide_eq_false h3
      rw [et] at HA
      have HN := hide (show r.act.l.length = r.l.length by rw [ql])
      have HI := hide (show r.act.is.length = r.l.length by rw [qi]; exact h.len.1)
      clear h e1 e2 et H ql qi qp c0 c1 c2 c3 c5
      generalize hra : r.act = ra at *
      clear hra
      generalize hx : r.l.length = x at *
      clear hx hd h3
      go_enter Try.func34, Try.ntmps34
      go_wp2_with fail
      refine (unhide HA).mono ?_
      rintro e w1 ⟨rfl, r1, o1⟩
      have HR := hide (And.intro r1 (o1.mono (Q := OfR X (.slice (some ⟨gl, 0, none⟩) x cl) (.slice (some ⟨gi, 0, none⟩) x ci) (.slice (some ⟨gp, 0, none⟩) x cp)) fun k _ q => Or.inl q))
      clear r1 o1 HA c4
      go_wp2
      go_loopw [4] (fun i wr => ∃ k : Nat, k ≤ x ∧ i = .int .i64 k ∧ RAt X (ra.sy k) (.slice (some ⟨gl, 0, none⟩) x cl) (.slice (some ⟨gi, 0, none⟩) x ci) (.slice (some ⟨gp, 0, none⟩) x cp) wr ∧ Only (OfR X (.slice (some ⟨gl, 0, none⟩) x cl) (.slice (some ⟨gi, 0, none⟩) x ci) (.slice (some ⟨gp, 0, none⟩) x cp)) w wr) (fun i _ => x - (Go.RowKit.intOf i).toNat)
      case atStart => exact ⟨0, by omega, rfl, by unfold Rd.sy; rw [syL_zero, syI_zero]; exact (unhide HR).1, (unhide HR).2⟩
      case round =>
        clear HR
        obtain ⟨k, hk, rfl, hr, ho⟩ := hrel
        obtain ⟨d0, d1, d2, -, -, -⟩ := hr.c
        have hlr := hr.lt
        have HR := hide hr
        have HO := hide ho
        by_cases hlt : k < x
        · have hlt' : (k : Int) < (x : Int) := by omega
          have hka : k < ra.l.length := by rw [unhide HN]; exact hlt
          have hki : k < ra.is.length := by rw [unhide HI]; exact hlt
          have hsn : (ra.sy k).l.length = x := (syL_len _ _).trans (unhide HN)
          obtain ⟨gl', cl', gi', ci', gp', cp', q1, q2, q3, t1, t2, t3, z1, z2, z3⟩ := hr.at k (by rw [hsn]; exact hlt)
          rw [hsn] at q1 q2 q3
          cases q1
          cases q2
          cases q3
          simp only [Rd.sy] at t1 t2 t3
          rw [syL_at _ _ hka] at t1
          rw [syI_at _ _ hki] at t2
          have l1 := blk_lt t1
          have l2 := blk_lt t2
          have l3 := blk_lt t3
          have HY := hide (fun h => syL_yes ra k hka h)
          generalize ra.p.getD k [] = y at *
          cases hb : ra.is.getD k false with
          | false =>
            have HN2 := hide (show RAt X (ra.sy (k + 1)) (.slice (some ⟨gl, 0, none⟩) x cl) (.slice (some ⟨gi, 0, none⟩) x ci) (.slice (some ⟨gp, 0, none⟩) x cp) wr by
              have := unhide HR
              unfold Rd.sy at this ⊢
              rw [← syL_no _ _ hb, ← syI_no _ _ hb]
              exact this)
            rw [hb] at t2
            clear hr ho t1 t3 hb hka hki hsn
            go_wp2
            refine ⟨⟨k + 1, by omega, by go_num, unhide HN2, unhide HO⟩, ?_⟩
            simp [Go.RowKit.intOf]; omega
          | true =>
            have s1 := hr.setL hsn.symm k y
            have s2 := s1.setI (by rw [← hsn]; exact (List.length_set).symm) k false
            have HN2 := hide (show RAt X (ra.sy (k + 1)) (.slice (some ⟨gl, 0, none⟩) x cl) (.slice (some ⟨gi, 0, none⟩) x ci) (.slice (some ⟨gp, 0, none⟩) x cp) _ by
              have := s2
              unfold Rd.sy at this ⊢
              rw [← unhide HY hb, ← syI_yes _ _ hki]
              exact this)
            have HO2 := hide ((ho.put ⟨gl, k, none⟩ (S y) (.inl (.inr (.inl rfl)))).put ⟨gi, k, none⟩ (.bool false) (.inl (.inr (.inr (.inl rfl)))))
            obtain ⟨-, f1, -, -, -, -⟩ := s1.c
            have hl1 := s1.lt
            have f2 := (s1.at k (by rw [← hsn] at hlt; simpa using hlt))
            obtain ⟨gl', cl', gi', ci', gp', cp', q1, q2, q3, -, u2, -, -, v2, -⟩ := f2
            have q4 : ((ra.sy k).l.set k y).length = x := by rw [List.length_set]; exact hsn
            simp only [q4] at q2
            cases q2
            have l5 := blk_lt u2
            rw [hb] at t2
            clear hr ho s1 s2 q1 q3 q4 hb hka hki hsn
            go_wp2
            go_region
            go_wp2
            refine ⟨⟨k + 1, by omega, by go_num, (unhide HN2).below (Below.refl _ _).drew, (unhide HO2).drawn⟩, ?_⟩
            simp [Go.RowKit.intOf]; omega
        · have hkx : k = x := by omega
          have hlt' : ¬ (k : Int) < (x : Int) := by omega
          clear hr ho
          go_wp2
          go_ret
          exact ⟨rfl, by subst hkx; exact unhide HR, unhide HO⟩
end
end Go.Proofs.Ytpelmacblglhoaa
