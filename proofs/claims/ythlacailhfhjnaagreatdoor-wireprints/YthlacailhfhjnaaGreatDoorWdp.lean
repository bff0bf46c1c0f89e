import Derived.Test.YthlacailhfhjnaaGreatDoorWdd
namespace Go.Proofs.YthlacailhfhjnaaGreatDoor
open Go.RowKit Go.Lib
theorem up_ne32 {c : UInt8} (h : up c = true) : c ≠ 32 ∧ c ≠ 10 := by
  have q : ∀ c : UInt8, up c = true → c ≠ 32 ∧ c ≠ 10 := all_u8 (by decide +kernel)
  exact q c h
theorem pby_ne32 {c : UInt8} (h : pby c = true) : c ≠ 32 ∧ c ≠ 10 := by
  have q : ∀ c : UInt8, pby c = true → c ≠ 32 ∧ c ≠ 10 := all_u8 (by decide +kernel)
  exact q c h
theorem meth_all {s : Bs} (h : meth s = true) : ∀ c ∈ s, up c = true := by
  unfold meth at h; simp only [Bool.and_eq_true] at h; exact List.all_eq_true.1 h.2
theorem pth_all {s : Bs} (h : pth s = true) : ∀ c ∈ s, pby c = true := by
  unfold pth at h; simp only [Bool.and_eq_true] at h; exact List.all_eq_true.1 h.2
/-- The first line that is printed of a message is read as it was. -/
theorem mline_op {m p : Bs} (hm : meth m = true) (hp : pth p = true) : opM (mline m p) = some ⟨m, p, 0⟩ ∧ (∀ c ∈ mline m p, c ≠ 10) ∧ (mline m p).length ≤ 1000 := by
  have e1 : mline m p = m ++ 32 :: (p ++ 32 :: vers) := by simp [mline]
  have a1 := hd_app 32 m (p ++ 32 :: vers) (fun x hx => (up_ne32 (meth_all hm x hx)).1)
  have a2 := hd_app 32 p vers (fun x hx => (pby_ne32 (pth_all hp x hx)).1)
  refine ⟨?_, ?_, ?_⟩
  · unfold opM
    rw [e1, a1.1, a1.2, a2.1, a2.2, hm, hp]
    simp
  · intro c hc
    rw [e1] at hc
    simp only [List.mem_append, List.mem_cons] at hc
    rcases hc with hc | rfl | hc | rfl | hc
    · exact (up_ne32 (meth_all hm c hc)).2
    · decide
    · exact (pby_ne32 (pth_all hp c hc)).2
    · decide
    · revert c hc; decide
  · have := meth_len hm
    have := pth_len hp
    rw [e1]
    simp [vers]
    omega
theorem aline_op {n : Nat} (h : 100 ≤ n ∧ n ≤ 599) (hd9 : (decDigits n).length ≤ 100) : opA (aline n) = some ⟨[], [], n⟩ ∧ (∀ c ∈ aline n, c ≠ 10) ∧ (aline n).length ≤ 1000 := by
  have e1 : aline n = (vers ++ [32]) ++ (decDigits n ++ 32 :: rsn n) := by simp [aline, vers]
  have hds : ∀ c ∈ decDigits n, shn c = true ∧ c ≠ 32 := fun c hc => dgt_shn (dec_dgt n c hc)
  have a1 := hd_app 32 (decDigits n) (rsn n) (fun x hx => (hds x hx).2)
  have e2 : (aline n).drop 9 = decDigits n ++ 32 :: rsn n := by rw [e1]; rfl
  have e3 : (vers ++ [32]).isPrefixOf (aline n) = true := by
    rw [e1]
    simp [List.isPrefixOf_iff_prefix]
  have hr := rsn_shn n
  refine ⟨?_, ?_, ?_⟩
  · unfold opA
    rw [e3, e2, a1.1, a1.2, dec_num, dec_vl, hr.1]
    have : (decDigits n).length < (decDigits n ++ 32 :: rsn n).length := by simp
    rw [if_pos (by simp [h])]
  · intro c hc
    rw [e1] at hc
    simp only [List.mem_append, List.mem_cons] at hc
    rcases hc with (hc | hc) | hc | rfl | hc
    · revert c hc; decide
    · simp at hc; subst hc; decide
    · exact shn_ne10 (hds c hc).1
    · decide
    · exact shn_ne10 (List.all_eq_true.1 hr.1 c hc)
  · rw [e1]
    simp [vers]
    omega
/-- A message that was printed: its bytes but the last end nothing, the last one ends it. -/
theorem msg_back {m : Ms} (h : may m = true) (hd9 : (decDigits m.b.length).length ≤ 100) : ∃ (i : Bs) (c : UInt8) (q : Ps), lay (mline m.m m.p) m.hs m.b = i ++ [c] ∧ run opM p0 i = some q ∧ (step opM q c).2 = 0 ∧ (step opM q c).1.st = 3 ∧ (step opM q c).1.ms = m := by
  unfold may at h
  simp only [Bool.and_eq_true] at h
  obtain ⟨o1, o2, o3⟩ := mline_op h.1.1 h.1.2
  obtain ⟨i, c, q, e, hr, hs⟩ := lay_reads o1 o2 o3 m.hs m.b h.2 hd9
  refine ⟨i, c, q, e, hr, ?_⟩
  rw [hs]
  exact ⟨rfl, rfl, rfl⟩
theorem ans_back {n : Nat} {hs : List Fl} {b : Bs} (hn : 100 ≤ n ∧ n ≤ 599) (h : flw hs b = true) (hd8 : (decDigits n).length ≤ 100) (hd9 : (decDigits b.length).length ≤ 100) : ∃ (i : Bs) (c : UInt8) (q : Ps), lay (aline n) hs b = i ++ [c] ∧ run opA p0 i = some q ∧ (step opA q c).2 = 0 ∧ (step opA q c).1.st = 3 ∧ (step opA q c).1.fs.s = n ∧ (step opA q c).1.hs = hs ∧ (step opA q c).1.bd = b := by
  obtain ⟨o1, o2, o3⟩ := aline_op hn hd8
  obtain ⟨i, c, q, e, hr, hst⟩ := lay_reads o1 o2 o3 hs b h hd9
  refine ⟨i, c, q, e, hr, ?_⟩
  rw [hst]
  exact ⟨rfl, rfl, rfl, rfl, rfl⟩
theorem dec_len (n : Nat) (h : n < 10000) : (decDigits n).length ≤ 4 := by
  by_cases h1 : n < 10
  · rw [decDigits, dif_pos h1]; simp
  by_cases h2 : n < 100
  · rw [decDigits, dif_neg h1, decDigits, dif_pos (by omega)]; simp
  by_cases h3 : n < 1000
  · rw [decDigits, dif_neg h1, decDigits, dif_neg (by omega), decDigits, dif_pos (by omega)]; simp
  · rw [decDigits, dif_neg h1, decDigits, dif_neg (by omega), decDigits, dif_neg (by omega), decDigits, dif_pos (by omega)]; simp
/-- A beginning of a message, then the rest. -/
theorem feed_begin {m : Ms} (h : may m = true) (k : Nat) (hk : k < (lay (mline m.m m.p) m.hs m.b).length) :
    ∃ r, feed p0 ((lay (mline m.m m.p) m.hs m.b).take k) = (r, [], 0) ∧ r.rd = k ∧ r.st < 3 ∧ feed r ((lay (mline m.m m.p) m.hs m.b).drop k) = (p0, [m], 0) := by
  have hb : m.b.length ≤ 4000 := by
    unfold may at h
    simp only [Bool.and_eq_true] at h
    exact (flw_len h.2).2.2
  obtain ⟨i, c, q, e, hr, s1, s2, s3⟩ := msg_back h (by have := dec_len m.b.length (by omega); omega)
  rw [e] at hk ⊢
  have hk2 : k ≤ i.length := by simp at hk; omega
  obtain ⟨r, r1, r2⟩ := run_take hr k
  have t1 : (i ++ [c]).take k = i.take k := by rw [List.take_append_of_le_length hk2]
  have t2 : (i ++ [c]).drop k = i.drop k ++ [c] := by rw [List.drop_append_of_le_length hk2]
  have hrd := run_rd r1 (by decide)
  refine ⟨r, ?_, ?_, hrd.2, ?_⟩
  · unfold feed
    rw [if_neg (by decide), t1]
    have := fd_run r1 [] []
    rw [List.append_nil] at this
    rw [this]; rfl
  · rw [hrd.1]
    simp [p0]
    omega
  · unfold feed
    rw [if_neg (by have := hrd.2; omega), t2, fd_run r2]
    simp only [fd]
    rw [if_neg (by simp [s1]), if_pos s2, s3]
    rfl
theorem pa_back {n : Nat} {hs : List Fl} {b : Bs} (hn : 100 ≤ n ∧ n ≤ 599) (h : flw hs b = true) (t : Bs) : pa p0 (lay (aline n) hs b ++ t) = .ok (⟨n, hs, b⟩, t) := by
  have hb := (flw_len h).2.2
  obtain ⟨i, c, q, e, hr, s1, s2, s3, s4, s5⟩ := ans_back hn h (by have := dec_len n (by omega); omega) (by have := dec_len b.length (by omega); omega)
  rw [e, List.append_assoc, pa_run hr]
  simp only [List.cons_append, List.nil_append, pa]
  rw [if_neg (by simp [s1]), if_pos s2, s3, s4, s5]
theorem pa_begin {n : Nat} {hs : List Fl} {b : Bs} (hn : 100 ≤ n ∧ n ≤ 599) (h : flw hs b = true) (k : Nat) (hk : k < (lay (aline n) hs b).length) : pa p0 ((lay (aline n) hs b).take k) = .error 56 := by
  have hb := (flw_len h).2.2
  obtain ⟨i, c, q, e, hr, s1, s2, s3, s4, s5⟩ := ans_back hn h (by have := dec_len n (by omega); omega) (by have := dec_len b.length (by omega); omega)
  rw [e] at hk ⊢
  have hk2 : k ≤ i.length := by simp at hk; omega
  obtain ⟨r, r1, r2⟩ := run_take hr k
  rw [List.take_append_of_le_length hk2]
  have := pa_run r1 []
  rw [List.append_nil] at this
  rw [this]; rfl
end Go.Proofs.YthlacailhfhjnaaGreatDoor
