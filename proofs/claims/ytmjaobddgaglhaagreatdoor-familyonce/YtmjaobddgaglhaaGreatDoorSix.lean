namespace Go.Proofs.YtmjaobddgaglhaaGreatDoor
/- Bytes as values of six bits, and of four. Plain lists alone. -/
namespace Six
/-- The values of six bits each, from the highest on. -/
def sig : List UInt8 → List Nat
  | a :: b :: c :: r => [a.toNat / 4, a.toNat % 4 * 16 + b.toNat / 16, b.toNat % 16 * 4 + c.toNat / 64, c.toNat % 64] ++ sig r
  | [a, b] => [a.toNat / 4, a.toNat % 4 * 16 + b.toNat / 16, b.toNat % 16 * 4]
  | [a] => [a.toNat / 4, a.toNat % 4 * 16]
  | [] => []
/-- The state of a teller: what was told, the bits that are left, how many they are. -/
structure St where
  out : List Nat
  bits : Nat
  have_ : Nat
def tell (s : St) (b : UInt8) : St :=
  let n := s.bits * 256 + b.toNat
  match s.have_ with
  | 0 => ⟨s.out ++ [n / 4], n % 4, 2⟩
  | 2 => ⟨s.out ++ [n / 16], n % 16, 4⟩
  | _ => ⟨s.out ++ [n / 64, n % 64], 0, 0⟩
def told (s : List UInt8) : St := s.foldl tell ⟨[], 0, 0⟩
def lastOf (s : St) : List Nat := if s.have_ = 0 then s.out else s.out ++ [s.bits * 2 ^ (6 - s.have_)]
theorem tell3 (o : List Nat) (a b c : UInt8) (r : List UInt8) : (a :: b :: c :: r).foldl tell ⟨o, 0, 0⟩ = r.foldl tell ⟨o ++ [a.toNat / 4, a.toNat % 4 * 16 + b.toNat / 16, b.toNat % 16 * 4 + c.toNat / 64, c.toNat % 64], 0, 0⟩ := by
  have ha := a.toNat_lt
  have hb := b.toNat_lt
  have hc := c.toNat_lt
  simp only [List.foldl_cons, tell, List.append_assoc, List.cons_append, List.nil_append]
  congr 2
  congr 1
  simp only [List.cons.injEq, and_true]
  refine ⟨by omega, by omega, by omega, by omega⟩
theorem told_from (s : List UInt8) : ∀ o, lastOf (s.foldl tell ⟨o, 0, 0⟩) = o ++ sig s := by
  induction s using sig.induct with
  | case1 a b c r ih => intro o; rw [tell3, ih]; simp [sig]
  | case2 a b =>
    intro o
    have ha := a.toNat_lt
    have hb := b.toNat_lt
    simp only [List.foldl_cons, List.foldl_nil, tell, lastOf, sig]
    simp only [List.append_assoc, List.cons_append, List.nil_append, if_neg (show ¬ (4 = 0) by decide)]
    congr 1
    simp only [List.cons.injEq, and_true]
    refine ⟨by omega, by omega, by omega⟩
  | case3 a =>
    intro o
    have ha := a.toNat_lt
    simp only [List.foldl_cons, List.foldl_nil, tell, lastOf, sig]
    simp only [List.append_assoc, List.cons_append, List.nil_append, if_neg (show ¬ (2 = 0) by decide)]
    congr 1
    simp only [List.cons.injEq, and_true]
    refine ⟨by omega, by omega⟩
  | case4 => intro o; simp [lastOf, sig]
theorem told_last (s : List UInt8) : lastOf (told s) = sig s := by
  have := told_from s []
  simpa [told] using this
/-- The states that a teller comes to. -/
def Fit (s : St) : Prop := (s.have_ = 0 ∧ s.bits = 0) ∨ (s.have_ = 2 ∧ s.bits < 4) ∨ (s.have_ = 4 ∧ s.bits < 16)
theorem fit_tell {s : St} (h : Fit s) (b : UInt8) : Fit (tell s b) := by
  obtain ⟨o, n, k⟩ := s
  have hb := b.toNat_lt
  rcases h with ⟨h1, h2⟩ | ⟨h1, h2⟩ | ⟨h1, h2⟩ <;> simp only at h1 h2 <;> subst h1
  · exact .inr (.inl ⟨rfl, by simp only [tell]; omega⟩)
  · exact .inr (.inr ⟨rfl, by simp only [tell]; omega⟩)
  · exact .inl ⟨rfl, rfl⟩
theorem fit_fold (l : List UInt8) : ∀ s, Fit s → Fit (l.foldl tell s) := by
  induction l with
  | nil => intro s h; exact h
  | cons b l ih => intro s h; exact ih _ (fit_tell h b)
theorem fit_told (l : List UInt8) : Fit (told l) := fit_fold l _ (.inl ⟨rfl, rfl⟩)
theorem told_snoc (l : List UInt8) (b : UInt8) : told (l ++ [b]) = tell (told l) b := by simp [told]
theorem sig_lt (s : List UInt8) : ∀ v ∈ sig s, v < 64 := by
  induction s using sig.induct with
  | case1 a b c r ih =>
    have ha := a.toNat_lt
    have hb := b.toNat_lt
    have hc := c.toNat_lt
    intro v hv
    simp only [sig, List.mem_append, List.mem_cons, List.not_mem_nil, or_false] at hv
    rcases hv with (hv | hv | hv | hv) | hv
    · omega
    · omega
    · omega
    · omega
    · exact ih v hv
  | case2 a b =>
    have ha := a.toNat_lt
    have hb := b.toNat_lt
    intro v hv
    simp only [sig, List.mem_cons, List.not_mem_nil, or_false] at hv
    omega
  | case3 a =>
    have ha := a.toNat_lt
    intro v hv
    simp only [sig, List.mem_cons, List.not_mem_nil, or_false] at hv
    omega
  | case4 => intro v hv; simp [sig] at hv
theorem sig_len (s : List UInt8) : (sig s).length = (4 * s.length + 2) / 3 := by
  induction s using sig.induct with
  | case1 a b c r ih => simp [sig, ih]; omega
  | case2 a b => simp [sig]
  | case3 a => simp [sig]
  | case4 => simp [sig]
theorem sig_inj (s : List UInt8) : ∀ t, sig s = sig t → s = t := by
  have byte : ∀ a b : UInt8, a.toNat = b.toNat → a = b := fun a b h => UInt8.toNat_inj.1 h
  induction s using sig.induct with
  | case1 a b c r ih =>
    intro t h
    match t, h with
    | a' :: b' :: c' :: r', h =>
      simp only [sig, List.cons_append, List.nil_append, List.cons.injEq] at h
      obtain ⟨h1, h2, h3, h4, h5⟩ := h
      have ha := a.toNat_lt
      have hb := b.toNat_lt
      have hc := c.toNat_lt
      have ha' := a'.toNat_lt
      have hb' := b'.toNat_lt
      have hc' := c'.toNat_lt
      rw [byte a a' (by omega), byte b b' (by omega), byte c c' (by omega), ih r' h5]
    | [a', b'], h => have := congrArg List.length h; simp [sig] at this
    | [a'], h => have := congrArg List.length h; simp [sig] at this
    | [], h => simp [sig] at h
  | case2 a b =>
    intro t h
    match t, h with
    | a' :: b' :: c' :: r', h => have := congrArg List.length h; simp [sig] at this
    | [a', b'], h =>
      simp only [sig, List.cons.injEq, and_true] at h
      obtain ⟨h1, h2, h3⟩ := h
      have ha := a.toNat_lt
      have hb := b.toNat_lt
      have ha' := a'.toNat_lt
      have hb' := b'.toNat_lt
      rw [byte a a' (by omega), byte b b' (by omega)]
    | [a'], h => have := congrArg List.length h; simp [sig] at this
    | [], h => simp [sig] at h
  | case3 a =>
    intro t h
    match t, h with
    | a' :: b' :: c' :: r', h => have := congrArg List.length h; simp [sig] at this
    | [a', b'], h => have := congrArg List.length h; simp [sig] at this
    | [a'], h =>
      simp only [sig, List.cons.injEq, and_true] at h
      obtain ⟨h1, h2⟩ := h
      have ha := a.toNat_lt
      have ha' := a'.toNat_lt
      rw [byte a a' (by omega)]
    | [], h => simp [sig] at h
  | case4 =>
    intro t h
    match t, h with
    | a' :: b' :: c' :: r', h => simp [sig] at h
    | [a', b'], h => simp [sig] at h
    | [a'], h => simp [sig] at h
    | [], h => rfl
/-- What is read of values: the bytes, the bits that are left, how many they are. -/
structure Rd where
  out : List UInt8
  bits : Nat
  have_ : Nat
def read (s : Rd) (v : Nat) : Rd :=
  let n := s.bits * 64 + v
  match s.have_ with
  | 0 => ⟨s.out, n, 6⟩
  | 6 => ⟨s.out ++ [UInt8.ofNat (n / 16)], n % 16, 4⟩
  | 4 => ⟨s.out ++ [UInt8.ofNat (n / 4)], n % 4, 2⟩
  | _ => ⟨s.out ++ [UInt8.ofNat n], 0, 0⟩
def readAll (v : List Nat) : Rd := v.foldl read ⟨[], 0, 0⟩
def FitR (s : Rd) : Prop := (s.have_ = 0 ∧ s.bits = 0) ∨ (s.have_ = 6 ∧ s.bits < 64) ∨ (s.have_ = 4 ∧ s.bits < 16) ∨ (s.have_ = 2 ∧ s.bits < 4)
theorem fit_read {s : Rd} (h : FitR s) (v : Nat) (hv : v < 64) : FitR (read s v) := by
  obtain ⟨o, n, k⟩ := s
  rcases h with ⟨h1, h2⟩ | ⟨h1, h2⟩ | ⟨h1, h2⟩ | ⟨h1, h2⟩ <;> simp only at h1 h2 <;> subst h1
  · exact .inr (.inl ⟨rfl, by simp only [read]; omega⟩)
  · exact .inr (.inr (.inl ⟨rfl, by simp only [read]; omega⟩))
  · exact .inr (.inr (.inr ⟨rfl, by simp only [read]; omega⟩))
  · exact .inl ⟨rfl, rfl⟩
theorem fit_foldR (l : List Nat) : (∀ v ∈ l, v < 64) → ∀ s, FitR s → FitR (l.foldl read s) := by
  induction l with
  | nil => intro _ s h; exact h
  | cons b l ih => intro hl s h; exact ih (fun v hv => hl v (List.mem_cons_of_mem _ hv)) _ (fit_read h b (hl b (List.mem_cons_self ..)))
theorem fit_readAll (l : List Nat) (hl : ∀ v ∈ l, v < 64) : FitR (readAll l) := fit_foldR l hl _ (.inl ⟨rfl, rfl⟩)
theorem readAll_snoc (l : List Nat) (b : Nat) : readAll (l ++ [b]) = read (readAll l) b := by simp [readAll]
theorem toNat_ofNat (n : Nat) (h : n < 256) : (UInt8.ofNat n).toNat = n := by rw [UInt8.toNat_ofNat']; exact Nat.mod_eq_of_lt h
/-- The reading, from a beginning where no bits are left. -/
def rest : List Nat → List UInt8 × Nat × Nat
  | p :: q :: r :: t :: l => let x := rest l; ([UInt8.ofNat ((p * 64 + q) / 16), UInt8.ofNat (((p * 64 + q) % 16 * 64 + r) / 4), UInt8.ofNat (((p * 64 + q) % 16 * 64 + r) % 4 * 64 + t)] ++ x.1, x.2.1, x.2.2)
  | [p, q, r] => ([UInt8.ofNat ((p * 64 + q) / 16), UInt8.ofNat (((p * 64 + q) % 16 * 64 + r) / 4)], ((p * 64 + q) % 16 * 64 + r) % 4, 2)
  | [p, q] => ([UInt8.ofNat ((p * 64 + q) / 16)], (p * 64 + q) % 16, 4)
  | [p] => ([], p, 6)
  | [] => ([], 0, 0)
theorem read_rest (v : List Nat) : ∀ o, v.foldl read ⟨o, 0, 0⟩ = ⟨o ++ (rest v).1, (rest v).2.1, (rest v).2.2⟩ := by
  induction v using rest.induct with
  | case1 p q r t l ih =>
    intro o
    simp only [List.foldl_cons, read, Nat.zero_mul, Nat.zero_add]
    rw [ih]
    simp [rest]
  | case2 p q r => intro o; simp [read, rest]
  | case3 p q => intro o; simp [read, rest]
  | case4 p => intro o; simp [read, rest]
  | case5 => intro o; simp [rest]
theorem readAll_rest (v : List Nat) : readAll v = ⟨(rest v).1, (rest v).2.1, (rest v).2.2⟩ := by
  have := read_rest v []
  simpa [readAll] using this
/-- A text of values is what is told of what is read just where nothing is left over. -/
theorem back (v : List Nat) (hv : ∀ x ∈ v, x < 64) : sig (rest v).1 = v ↔ ((rest v).2.2 < 6 ∧ (rest v).2.1 = 0) := by
  induction v using rest.induct with
  | case1 p q r t l ih =>
    have hp := hv p (by simp)
    have hq := hv q (by simp)
    have hr := hv r (by simp)
    have ht := hv t (by simp)
    have := ih (fun x hx => hv x (by simp [hx]))
    simp only [rest, List.cons_append, List.nil_append, sig, List.cons.injEq]
    rw [← this, toNat_ofNat _ (by omega), toNat_ofNat _ (by omega), toNat_ofNat _ (by omega)]
    constructor
    · intro h; exact h.2.2.2.2
    · intro h; exact ⟨by omega, by omega, by omega, by omega, h⟩
  | case2 p q r =>
    have hp := hv p (by simp)
    have hq := hv q (by simp)
    have hr := hv r (by simp)
    simp only [rest, sig, List.cons.injEq, and_true]
    rw [toNat_ofNat _ (by omega), toNat_ofNat _ (by omega)]
    omega
  | case3 p q =>
    have hp := hv p (by simp)
    have hq := hv q (by simp)
    simp only [rest, sig, List.cons.injEq, and_true]
    rw [toNat_ofNat _ (by omega)]
    omega
  | case4 p => simp [rest, sig]
  | case5 => simp [rest, sig]
theorem back' (v : List Nat) (hv : ∀ x ∈ v, x < 64) : sig (readAll v).out = v ↔ ¬ (6 ≤ (readAll v).have_ ∨ (readAll v).bits ≠ 0) := by
  rw [readAll_rest]
  simp only
  rw [back v hv]
  omega
end Six
end Go.Proofs.YtmjaobddgaglhaaGreatDoor
