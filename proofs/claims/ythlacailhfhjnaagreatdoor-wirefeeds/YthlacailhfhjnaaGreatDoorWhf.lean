import Derived.Test.YthlacailhfhjnaaGreatDoorZwhc
/- The first line of an answer, as the document's own function reads it. -/
namespace Go.Proofs.YthlacailhfhjnaaGreatDoor
open Go.Lib
theorem num_three {x : Bs} (h : num x = true) (h1 : 100 ≤ vl 0 x) (h2 : vl 0 x ≤ 599) : ∃ a b c, x = [a, b, c] ∧ dgt a = true ∧ dgt b = true ∧ dgt c = true := by
  unfold num at h
  rw [Bool.or_eq_true] at h
  rcases h with h | h
  · have : x = [48] := by simpa using h
    subst this
    exact absurd h1 (by decide)
  · simp only [Bool.and_eq_true, Bool.not_eq_true'] at h
    obtain ⟨⟨_, h4⟩, h5⟩ := h
    match x, h1, h2, h4, h5 with
    | [], h1, _, _, _ => exact absurd h1 (by decide)
    | [a], h1, _, _, h5 =>
      have ha : dgt a = true := by simpa using h5
      simp [dgt] at ha
      simp [vl] at h1
      omega
    | [a, b], h1, _, _, h5 =>
      simp at h5
      obtain ⟨ha, hb⟩ := h5
      simp [dgt] at ha hb
      simp [vl] at h1
      omega
    | [a, b, c], _, _, _, h5 =>
      simp at h5
      exact ⟨a, b, c, rfl, h5.1, h5.2.1, h5.2.2⟩
    | a :: b :: c :: d :: r, _, h2, h4, h5 =>
      exfalso
      have hm := vl_mono [a, b, c, d] r 0
      have ha : dgt a = true := by simp at h5; exact h5.1
      have hne : a ≠ 48 := by simpa using h4
      simp [dgt] at ha
      have : a.toNat ≠ 48 := fun e => hne (UInt8.toNat_inj.1 e)
      have e : vl 0 [a, b, c, d] = (((0 * 10 + (a.toNat - 48)) * 10 + (b.toNat - 48)) * 10 + (c.toNat - 48)) * 10 + (d.toNat - 48) := rfl
      rw [e] at hm
      have : vl 0 (a :: b :: c :: d :: r) = vl 0 ([a, b, c, d] ++ r) := rfl
      omega
/-- What the document's function asks of the line. -/
def tlv (s : Bs) : Nat := 100 * ((s.getD 9 0).toNat - 48) + 10 * ((s.getD 10 0).toNat - 48) + ((s.getD 11 0).toNat - 48)
def tlb (s : Bs) : Bool := decide (13 ≤ s.length) && s.take 8 == vers && s.getD 8 0 == 32 && s.getD 12 0 == 32 && ((s.drop 9).take 3).all dgt && (s.drop 13).all shn && decide (100 ≤ tlv s ∧ tlv s ≤ 599)
theorem opA_tlb (s : Bs) : opA s = if tlb s = true then some ⟨[], [], tlv s⟩ else none := by
  by_cases hl : 13 ≤ s.length
  · match s, hl with
    | c0 :: c1 :: c2 :: c3 :: c4 :: c5 :: c6 :: c7 :: c8 :: c9 :: c10 :: c11 :: c12 :: r, _ =>
      by_cases hpre : (vers ++ [32]).isPrefixOf (c0 :: c1 :: c2 :: c3 :: c4 :: c5 :: c6 :: c7 :: c8 :: c9 :: c10 :: c11 :: c12 :: r) = true
      · have hp : [c0, c1, c2, c3, c4, c5, c6, c7] = vers ∧ c8 = 32 := by
          simp [vers] at hpre
          simp [vers]
          obtain ⟨p0, p1, p2, p3, p4, p5, p6, p7, p8⟩ := hpre
          exact ⟨⟨p0.symm, p1.symm, p2.symm, p3.symm, p4.symm, p5.symm, p6.symm, p7.symm⟩, p8.symm⟩
        obtain ⟨hv, rfl⟩ := hp
        have hdr : (c0 :: c1 :: c2 :: c3 :: c4 :: c5 :: c6 :: c7 :: 32 :: c9 :: c10 :: c11 :: c12 :: r).drop 9 = c9 :: c10 :: c11 :: c12 :: r := rfl
        have htl : tlb (c0 :: c1 :: c2 :: c3 :: c4 :: c5 :: c6 :: c7 :: 32 :: c9 :: c10 :: c11 :: c12 :: r) = (c12 == 32 && (dgt c9 && (dgt c10 && dgt c11)) && r.all shn && decide (100 ≤ 100 * (c9.toNat - 48) + 10 * (c10.toNat - 48) + (c11.toNat - 48) ∧ 100 * (c9.toNat - 48) + 10 * (c10.toNat - 48) + (c11.toNat - 48) ≤ 599)) := by
          unfold tlb tlv
          have e : (c0 :: c1 :: c2 :: c3 :: c4 :: c5 :: c6 :: c7 :: 32 :: c9 :: c10 :: c11 :: c12 :: r).take 8 = vers := hv
          rw [e]
          simp
        have htv : tlv (c0 :: c1 :: c2 :: c3 :: c4 :: c5 :: c6 :: c7 :: 32 :: c9 :: c10 :: c11 :: c12 :: r) = 100 * (c9.toNat - 48) + 10 * (c10.toNat - 48) + (c11.toNat - 48) := rfl
        rw [htl, htv]
        unfold opA
        rw [hdr, hpre]
        generalize hT : c9 :: c10 :: c11 :: c12 :: r = T
        by_cases hc : (decide ((hd 32 T).length < T.length) && num (hd 32 T) && (tl 32 T).all shn && decide (100 ≤ vl 0 (hd 32 T) ∧ vl 0 (hd 32 T) ≤ 599)) = true
        · simp only [Bool.and_eq_true, decide_eq_true_eq] at hc
          obtain ⟨⟨⟨g1, g2⟩, g3⟩, g4, g5⟩ := hc
          obtain ⟨a, b, c, e, ha, hb, hcc⟩ := num_three g2 g4 g5
          rcases (hd_split 32 T).2 with ⟨_, q⟩ | ⟨q, _⟩
          · rw [e] at q
            rw [← hT] at q
            simp only [List.cons_append, List.nil_append, List.cons.injEq] at q
            obtain ⟨rfl, rfl, rfl, rfl, hr⟩ := q
            rw [e] at g4 g5
            have ev : vl 0 [c9, c10, c11] = 100 * (c9.toNat - 48) + 10 * (c10.toNat - 48) + (c11.toNat - 48) := by
              show ((0 * 10 + (c9.toNat - 48)) * 10 + (c10.toNat - 48)) * 10 + (c11.toNat - 48) = _
              omega
            rw [ev] at g4 g5
            rw [if_pos (by simp only [Bool.true_and, Bool.and_eq_true, decide_eq_true_eq]; rw [e, ev]; exact ⟨⟨⟨by rw [e] at g1; exact g1, by rw [e] at g2; exact g2⟩, g3⟩, g4, g5⟩), if_pos (by rw [hr, hT]; simp only [Bool.and_eq_true, decide_eq_true_eq]; exact ⟨⟨⟨by simp, ha, hb, hcc⟩, g3⟩, g4, g5⟩), e, ev]
          · omega
        · rw [if_neg (by simpa using hc), if_neg]
          intro h
          simp only [Bool.and_eq_true, decide_eq_true_eq] at h
          obtain ⟨⟨⟨h12, h9, h10, h11⟩, hr⟩, v1, v2⟩ := h
          have h12' : c12 = 32 := by simpa using h12
          subst h12'
          have nd : ∀ x : UInt8, dgt x = true → x ≠ 32 := fun x hx e => by subst e; exact absurd hx (by decide)
          have hh := hd_app 32 [c9, c10, c11] r (by intro x hx; simp at hx; rcases hx with rfl | rfl | rfl <;> exact nd _ (by assumption))
          have eT : T = [c9, c10, c11] ++ 32 :: r := hT.symm
          rw [← eT] at hh
          apply hc
          have ev : vl 0 [c9, c10, c11] = 100 * (c9.toNat - 48) + 10 * (c10.toNat - 48) + (c11.toNat - 48) := by
            show ((0 * 10 + (c9.toNat - 48)) * 10 + (c10.toNat - 48)) * 10 + (c11.toNat - 48) = _
            omega
          have hn9 : c9 ≠ 48 := fun e => by
            subst e
            simp [dgt] at h10 h11
            have : (48 : UInt8).toNat = 48 := rfl
            omega
          simp only [Bool.and_eq_true, decide_eq_true_eq]
          rw [hh.1, hh.2, ev]
          refine ⟨⟨⟨by rw [eT]; simp, ?_⟩, hr⟩, v1, v2⟩
          unfold num
          simp [hn9, h9, h10, h11]
      · have hpre' : (vers ++ [32]).isPrefixOf (c0 :: c1 :: c2 :: c3 :: c4 :: c5 :: c6 :: c7 :: c8 :: c9 :: c10 :: c11 :: c12 :: r) = false := Bool.eq_false_iff.2 hpre
        have h1 : opA (c0 :: c1 :: c2 :: c3 :: c4 :: c5 :: c6 :: c7 :: c8 :: c9 :: c10 :: c11 :: c12 :: r) = none := by
          unfold opA
          rw [hpre']
          rfl
        rw [h1, if_neg]
        intro h
        unfold tlb at h
        simp only [Bool.and_eq_true] at h
        have e1 := h.1.1.1.1.1.2
        have e2 := h.1.1.1.1.2
        apply hpre
        have e3 : [c0, c1, c2, c3, c4, c5, c6, c7] = vers := by simpa using e1
        have e4 : c8 = 32 := by simpa using e2
        subst e4
        simp only [vers, List.cons.injEq, and_true] at e3
        obtain ⟨rfl, rfl, rfl, rfl, rfl, rfl, rfl, rfl⟩ := e3
        rfl
  · rw [if_neg (by unfold tlb; simp [hl])]
    unfold opA
    rw [if_neg]
    intro h
    simp only [Bool.and_eq_true, decide_eq_true_eq] at h
    obtain ⟨⟨⟨⟨g0, g1⟩, g2⟩, _⟩, g4, g5⟩ := h
    obtain ⟨a, b, c, e, _⟩ := num_three g2 g4 g5
    rw [e] at g1
    simp at g1
    omega
end Go.Proofs.YthlacailhfhjnaaGreatDoor
