namespace Go.Proofs.YtbmcaejbfjpmiaaDoor
/-- A byte of every kind: what holds of 256 numbers holds of bytes. -/
theorem every {p : UInt8 → Bool} (h : (List.range 256).all (fun n => p (UInt8.ofNat n)) = true) (c : UInt8) : p c = true := by
  have := List.all_eq_true.1 h c.toNat (List.mem_range.2 c.toNat_lt)
  simpa using this
/-- What a digit of sixteen is worth; -1: it is none. -/
def dg (c : UInt8) : Int := if 48 ≤ c.toNat ∧ c.toNat ≤ 57 then (c.toNat : Int) - 48 else if 97 ≤ c.toNat ∧ c.toNat ≤ 102 then (c.toNat : Int) - 87 else if 65 ≤ c.toNat ∧ c.toNat ≤ 70 then (c.toNat : Int) - 55 else -1
abbrev hexs : List UInt8 := [48, 49, 50, 51, 52, 53, 54, 55, 56, 57, 65, 66, 67, 68, 69, 70]
def hexd (n : Nat) : UInt8 := hexs.getD n 0
def plain (c : UInt8) : Bool := (97 ≤ c.toNat && c.toNat ≤ 122) || (65 ≤ c.toNat && c.toNat ≤ 90) || (48 ≤ c.toNat && c.toNat ≤ 57) || c.toNat == 45 || c.toNat == 46 || c.toNat == 95 || c.toNat == 42
def esc1 (c : UInt8) : List UInt8 := if plain c then [c] else if c = 32 then [43] else [37, hexd (c.toNat / 16), hexd (c.toNat % 16)]
def esc (l : List UInt8) : List UInt8 := l.flatMap esc1
abbrev Rs (α : Type) := Except (Nat × Nat) α
def more (c : List UInt8) (k : Nat) : Rs (List UInt8) → Rs (List UInt8)
  | .ok l => .ok (c ++ l)
  | .error (e, p) => .error (e, p + k)
def bad (c : UInt8) : Bool := c.toNat < 33 || 126 < c.toNat || c.toNat == 38 || c.toNat == 61
def two (a b : UInt8) : UInt8 := UInt8.ofNat (16 * (dg a).toNat + (dg b).toNat)
def rd : List UInt8 → Rs (List UInt8)
  | [] => .ok []
  | c :: t =>
    if c = 43 then more [32] 1 (rd t)
    else if c = 37 then
      match t with
      | a :: b :: u => if 0 ≤ dg a ∧ 0 ≤ dg b then more [two a b] 3 (rd u) else .error (30, 0)
      | _ => .error (30, 0)
    else if bad c then .error (31, 0)
    else more [c] 1 (rd t)
theorem more_more (a b : List UInt8) (i j : Nat) (r : Rs (List UInt8)) : more a i (more b j r) = more (a ++ b) (i + j) r := by
  cases r with
  | ok l => simp [more]
  | error e => obtain ⟨e, p⟩ := e; simp [more]; omega
theorem more_nil (r : Rs (List UInt8)) : more [] 0 r = r := by
  cases r with
  | ok l => rfl
  | error e => obtain ⟨e, p⟩ := e; rfl
theorem rd_nil : rd [] = .ok [] := rfl
theorem rd_plus (t : List UInt8) : rd (43 :: t) = more [32] 1 (rd t) := by (conv => lhs; unfold rd); simp
theorem rd_self (c : UInt8) (t : List UInt8) (h1 : c ≠ 43) (h2 : c ≠ 37) (h3 : bad c = false) : rd (c :: t) = more [c] 1 (rd t) := by (conv => lhs; unfold rd); simp [h1, h2, h3]
theorem rd_bad (c : UInt8) (t : List UInt8) (h1 : c ≠ 43) (h2 : c ≠ 37) (h3 : bad c = true) : rd (c :: t) = .error (31, 0) := by (conv => lhs; unfold rd); simp [h1, h2, h3]
theorem rd_hex (a b : UInt8) (t : List UInt8) (h1 : 0 ≤ dg a) (h2 : 0 ≤ dg b) : rd (37 :: a :: b :: t) = more [two a b] 3 (rd t) := by (conv => lhs; unfold rd); simp [h1, h2]
theorem rd_unhex (a b : UInt8) (t : List UInt8) (h : ¬ (0 ≤ dg a ∧ 0 ≤ dg b)) : rd (37 :: a :: b :: t) = .error (30, 0) := by (conv => lhs; unfold rd); simp only [h]; simp
theorem rd_short (t : List UInt8) (h : t.length < 2) : rd (37 :: t) = .error (30, 0) := by
  match t, h with
  | [], _ => unfold rd; simp
  | [a], _ => unfold rd; simp
theorem esc_nil : esc [] = [] := rfl
theorem esc_cons (c : UInt8) (l : List UInt8) : esc (c :: l) = esc1 c ++ esc l := by simp [esc]
theorem esc_append (a b : List UInt8) : esc (a ++ b) = esc a ++ esc b := by simp [esc]
theorem esc1_len (c : UInt8) : (esc1 c).length ≤ 3 ∧ 1 ≤ (esc1 c).length := by
  unfold esc1
  split
  · simp
  · split <;> simp
theorem esc_len (l : List UInt8) : (esc l).length ≤ 3 * l.length := by
  induction l with
  | nil => simp [esc]
  | cons c l ih =>
    rw [esc_cons, List.length_append, List.length_cons]
    have := (esc1_len c).1
    omega
def clean1 (c : UInt8) : Bool := (esc1 c).all fun x => !(x == 38) && !(x == 61)
theorem esc1_clean (c : UInt8) : clean1 c = true := every (by decide +kernel) c
def hexok (c : UInt8) : Bool := decide (0 ≤ dg (hexd (c.toNat / 16))) && decide (0 ≤ dg (hexd (c.toNat % 16))) && (two (hexd (c.toNat / 16)) (hexd (c.toNat % 16)) == c) && (!plain c || (!(bad c) && !(c == 43) && !(c == 37)))
theorem hexok_all (c : UInt8) : hexok c = true := every (by decide +kernel) c
theorem rd_esc1 (c : UInt8) (t : List UInt8) : rd (esc1 c ++ t) = more [c] (esc1 c).length (rd t) := by
  have h := hexok_all c
  unfold hexok at h
  simp only [Bool.and_eq_true, Bool.or_eq_true, Bool.not_eq_true', decide_eq_true_eq, beq_iff_eq] at h
  obtain ⟨⟨⟨h1, h2⟩, h3⟩, h4⟩ := h
  unfold esc1
  by_cases hp : plain c = true
  · rw [if_pos hp]
    obtain ⟨⟨h5, h6⟩, h7⟩ := h4.resolve_left (by simp [hp])
    show rd (c :: t) = _
    rw [rd_self c t (by simpa using h6) (by simpa using h7) h5]
    rfl
  · rw [if_neg hp]
    by_cases hs : c = 32
    · subst hs
      rw [if_pos rfl]
      show rd (43 :: t) = _
      rw [rd_plus]
      rfl
    · rw [if_neg hs]
      show rd (37 :: _ :: _ :: t) = _
      rw [rd_hex _ _ _ h1 h2, h3]
      rfl
theorem rd_esc (l t : List UInt8) : rd (esc l ++ t) = more l (esc l).length (rd t) := by
  induction l with
  | nil => simp [esc, more_nil]
  | cons c l ih =>
    rw [esc_cons, List.append_assoc, rd_esc1, ih, more_more, List.length_append]
    rfl
theorem rd_esc_all (l : List UInt8) : rd (esc l) = .ok l := by
  have := rd_esc l []
  rw [List.append_nil, rd_nil] at this
  rw [this]
  simp [more]
theorem esc_clean (l : List UInt8) : ∀ x ∈ esc l, x ≠ 38 ∧ x ≠ 61 := by
  intro x hx
  obtain ⟨c, _, hc⟩ := List.mem_flatMap.1 hx
  have h := List.all_eq_true.1 (esc1_clean c) x hc
  simpa using h
/-! ### Pieces -/
abbrev Fl := List UInt8 × List UInt8
def hd (c : UInt8) (p : List UInt8) : List UInt8 := p.takeWhile (fun x => !(x == c))
def tl (c : UInt8) (p : List UInt8) : List UInt8 := (p.dropWhile (fun x => !(x == c))).drop 1
def pc (p : List UInt8) : Rs Fl :=
  if p = [] then .error (31, 0) else
  match rd (hd 61 p) with
  | .error e => .error e
  | .ok n =>
    match rd (tl 61 p) with
    | .error (e, q) => .error (e, (hd 61 p).length + 1 + q)
    | .ok v => .ok (n, v)
def add (f : Fl) (k : Nat) : Rs (List Fl) → Rs (List Fl)
  | .ok l => .ok (f :: l)
  | .error (e, p) => .error (e, k + p)
def prs : Nat → List UInt8 → Rs (List Fl)
  | 0, _ => .error (32, 0)
  | k + 1, s =>
    match pc (hd 38 s) with
    | .error e => .error e
    | .ok f => if (hd 38 s).length < s.length then add f ((hd 38 s).length + 1) (prs k (tl 38 s)) else .ok [f]
def parse (s : List UInt8) : Rs (List Fl) := if s = [] then .ok [] else prs 32 s
def fld (f : Fl) : List UInt8 := esc f.1 ++ 61 :: esc f.2
def prt : List Fl → List UInt8
  | [] => []
  | f :: l => fld f ++ (l.flatMap fun g => 38 :: fld g)
theorem hd_tl (c : UInt8) (p : List UInt8) : (c ∉ p ∧ hd c p = p ∧ tl c p = []) ∨ (p = hd c p ++ c :: tl c p) := by
  unfold hd tl
  induction p with
  | nil => left; simp
  | cons a p ih =>
    by_cases h : a = c
    · subst h; right; simp
    · rcases ih with ⟨h1, h2, h3⟩ | h2
      · left
        refine ⟨by simp [h1, Ne.symm h], ?_, ?_⟩
        · simp [h, h2]
        · simp [h, h3]
      · right
        have : (!(a == c)) = true := by simp [h]
        rw [List.takeWhile_cons, List.dropWhile_cons, if_pos this, if_pos this, List.cons_append, ← h2]
theorem hd_not (c : UInt8) (p : List UInt8) : c ∉ hd c p := by
  intro h
  have := List.all_takeWhile (p := fun x => !(x == c)) (l := p)
  have := List.all_eq_true.1 this c h
  simp at this
theorem hd_app (c : UInt8) (a b : List UInt8) (h : c ∉ a) : hd c (a ++ c :: b) = a ∧ tl c (a ++ c :: b) = b := by
  unfold hd tl
  induction a with
  | nil => simp
  | cons x a ih =>
    simp at h
    have h1 : (!(x == c)) = true := by simp [Ne.symm h.1]
    have := ih (by simpa using h.2)
    rw [List.cons_append, List.takeWhile_cons, List.dropWhile_cons, if_pos h1, if_pos h1]
    exact ⟨by rw [this.1], this.2⟩
theorem hd_all (c : UInt8) (a : List UInt8) (h : c ∉ a) : hd c a = a ∧ tl c a = [] := by
  rcases hd_tl c a with ⟨_, h1, h2⟩ | h1
  · exact ⟨h1, h2⟩
  · exact absurd (h1 ▸ (by simp : c ∈ hd c a ++ c :: tl c a)) h
theorem fld_clean (f : Fl) : 38 ∉ fld f := by
  intro h
  unfold fld at h
  rcases List.mem_append.1 h with h | h
  · exact (esc_clean _ _ h).1 rfl
  · rcases List.mem_cons.1 h with h | h
    · exact absurd h (by decide)
    · exact (esc_clean _ _ h).1 rfl
theorem pc_fld (f : Fl) : pc (fld f) = .ok f := by
  have h := hd_app 61 (esc f.1) (esc f.2) (fun h => (esc_clean _ _ h).2 rfl)
  unfold pc
  rw [if_neg (by unfold fld; simp)]
  have e : fld f = esc f.1 ++ 61 :: esc f.2 := rfl
  rw [e, h.1, h.2, rd_esc_all, rd_esc_all]
theorem prs_prt (f : Fl) (l : List Fl) (k : Nat) (h : l.length < k) : prs k (prt (f :: l)) = .ok (f :: l) := by
  induction l generalizing f k with
  | nil =>
    obtain ⟨k, rfl⟩ : ∃ j, k = j + 1 := ⟨k - 1, by simp at h; omega⟩
    have e : prt [f] = fld f := by simp [prt]
    rw [e]
    unfold prs
    rw [(hd_all 38 _ (fld_clean f)).1, pc_fld]
    simp
  | cons g l ih =>
    obtain ⟨k, rfl⟩ : ∃ j, k = j + 1 := ⟨k - 1, by simp at h; omega⟩
    have e : prt (f :: g :: l) = fld f ++ 38 :: prt (g :: l) := by simp [prt]
    rw [e]
    unfold prs
    have h1 := hd_app 38 (fld f) (prt (g :: l)) (fld_clean f)
    rw [h1.1, h1.2, pc_fld]
    simp only [List.length_append, List.length_cons]
    rw [if_pos (by omega), ih g k (by simp at h; omega)]
    rfl
/-- What was printed is read as it was. -/
theorem parse_prt (l : List Fl) (h : l.length ≤ 32) : parse (prt l) = .ok l := by
  cases l with
  | nil => rfl
  | cons f l =>
    unfold parse
    rw [if_neg (by simp [prt, fld]), prs_prt f l 32 (by simp at h; omega)]
theorem prs_len (k : Nat) (s : List UInt8) (l : List Fl) (h : prs k s = .ok l) : l.length ≤ k ∧ l ≠ [] := by
  induction k generalizing s l with
  | zero => simp [prs] at h
  | succ k ih =>
    unfold prs at h
    cases hp : pc (hd 38 s) with
    | error e => rw [hp] at h; simp at h
    | ok f =>
      rw [hp] at h
      simp only at h
      split at h
      · cases hq : prs k (tl 38 s) with
        | error e => rw [hq] at h; obtain ⟨e, p⟩ := e; simp [add] at h
        | ok m =>
          rw [hq] at h
          simp only [add, Except.ok.injEq] at h
          have := ih _ _ hq
          subst h
          simp
          omega
      · simp at h
        subst h
        simp
theorem parse_len (s : List UInt8) (l : List Fl) (h : parse s = .ok l) : l.length ≤ 32 := by
  unfold parse at h
  split at h
  · simp at h; subst h; simp
  · exact (prs_len 32 s l h).1
theorem rd_place (l : List UInt8) (e p : Nat) (h : rd l = .error (e, p)) : p < l.length ∧ (e = 30 ∨ e = 31) ∧ ∃ m, rd (l.take p ++ [120]) = .ok m := by
  induction l using rd.induct generalizing p with
  | case1 => simp [rd] at h
  | case2 t ih =>
    rw [rd_plus] at h
    cases hr : rd t with
    | ok m => rw [hr] at h; simp [more] at h
    | error q =>
      obtain ⟨e', q⟩ := q
      rw [hr] at h
      simp [more] at h
      obtain ⟨rfl, rfl⟩ := h
      obtain ⟨h1, h2, m, h3⟩ := ih q hr
      refine ⟨by simp; omega, h2, 32 :: m, ?_⟩
      rw [List.take_succ_cons, List.cons_append, rd_plus, h3]
      rfl
  | case3 a b u hh hc ih =>
    rw [rd_hex _ _ _ hh.1 hh.2] at h
    cases hr : rd u with
    | ok m => rw [hr] at h; simp [more] at h
    | error q =>
      obtain ⟨e', q⟩ := q
      rw [hr] at h
      simp [more] at h
      obtain ⟨rfl, rfl⟩ := h
      obtain ⟨h1, h2, m, h3⟩ := ih q hr
      refine ⟨by simp; omega, h2, two a b :: m, ?_⟩
      rw [List.take_succ_cons, List.take_succ_cons, List.take_succ_cons, List.cons_append, List.cons_append, List.cons_append, rd_hex _ _ _ hh.1 hh.2, h3]
      rfl
  | case4 a b u hh hc =>
    rw [rd_unhex _ _ _ hh] at h
    simp at h
    obtain ⟨rfl, rfl⟩ := h
    exact ⟨by simp, by simp, [120], rfl⟩
  | case5 t ht hc =>
    have : rd (37 :: t) = .error (30, 0) := by
      match t, ht with
      | [], _ => exact rd_short [] (by simp)
      | [a], _ => exact rd_short [a] (by simp)
      | a :: b :: u, ht => exact absurd rfl (ht a b u)
    rw [this] at h
    simp at h
    obtain ⟨rfl, rfl⟩ := h
    exact ⟨by simp, by simp, [120], rfl⟩
  | case6 c t h1 h2 h3 =>
    rw [rd_bad c t h1 h2 h3] at h
    simp at h
    obtain ⟨rfl, rfl⟩ := h
    exact ⟨by simp, by simp, [120], rfl⟩
  | case7 c t h1 h2 h3 ih =>
    rw [rd_self c t h1 h2 (by simpa using h3)] at h
    cases hr : rd t with
    | ok m => rw [hr] at h; simp [more] at h
    | error q =>
      obtain ⟨e', q⟩ := q
      rw [hr] at h
      simp [more] at h
      obtain ⟨rfl, rfl⟩ := h
      obtain ⟨h4, h5, m, h6⟩ := ih q hr
      refine ⟨by simp; omega, h5, c :: m, ?_⟩
      rw [List.take_succ_cons, List.cons_append, rd_self c _ h1 h2 (by simpa using h3), h6]
      rfl
theorem notin_take {c : UInt8} {l : List UInt8} (n : Nat) (h : c ∉ l) : c ∉ l.take n := fun h1 => h (List.mem_of_mem_take h1)
theorem pc_place (p : List UInt8) (e q : Nat) (hc : 38 ∉ p) (h : pc p = .error (e, q)) : q ≤ p.length ∧ (e = 30 ∨ e = 31) ∧ ∃ f, pc (p.take q ++ [120]) = .ok f := by
  unfold pc at h
  split at h
  · rename_i hp
    subst hp
    simp at h
    obtain ⟨rfl, rfl⟩ := h
    exact ⟨by simp, by simp, ([120], []), rfl⟩
  · have hpl : (hd 61 p).length ≤ p.length := List.Sublist.length_le (List.takeWhile_sublist _)
    cases h1 : rd (hd 61 p) with
    | error r =>
      obtain ⟨e', q'⟩ := r
      rw [h1] at h
      simp at h
      obtain ⟨rfl, rfl⟩ := h
      obtain ⟨h2, h3, m, h4⟩ := rd_place _ _ _ h1
      refine ⟨by omega, h3, (m, []), ?_⟩
      have ht : p.take q' = (hd 61 p).take q' := by
        rcases hd_tl 61 p with ⟨_, h5, _⟩ | h5
        · rw [h5]
        · conv => lhs; rw [h5]
          rw [List.take_append_of_le_length (by omega)]
      have hn : 61 ∉ (hd 61 p).take q' ++ [120] := by
        intro hx
        rcases List.mem_append.1 hx with hx | hx
        · exact notin_take _ (hd_not 61 p) hx
        · simp at hx
      rw [ht]
      unfold pc
      rw [if_neg (by simp), (hd_all 61 _ hn).1, (hd_all 61 _ hn).2, h4]
      rfl
    | ok n =>
      rw [h1] at h
      cases h2 : rd (tl 61 p) with
      | ok v => rw [h2] at h; simp at h
      | error r =>
        obtain ⟨e', q'⟩ := r
        rw [h2] at h
        simp at h
        obtain ⟨rfl, rfl⟩ := h
        obtain ⟨h3, h4, m, h5⟩ := rd_place _ _ _ h2
        rcases hd_tl 61 p with ⟨_, _, h6⟩ | h6
        · rw [h6] at h2
          simp [rd] at h2
        · have hl : p.length = (hd 61 p).length + 1 + (tl 61 p).length := by
            conv => lhs; rw [h6]
            simp
            omega
          refine ⟨by omega, h4, (n, m), ?_⟩
          have ht : p.take ((hd 61 p).length + 1 + q') = hd 61 p ++ 61 :: (tl 61 p).take q' := by
            have h9 : ∀ (a b : List UInt8) (i : Nat), (a ++ 61 :: b).take (a.length + 1 + i) = a ++ 61 :: b.take i := fun a b i => by
              rw [List.take_append, List.take_of_length_le (by omega), show a.length + 1 + i - a.length = i + 1 by omega, List.take_succ_cons]
            have h10 := h9 (hd 61 p) (tl 61 p) q'
            rw [← h6] at h10
            exact h10
          rw [ht]
          have h7 := hd_app 61 (hd 61 p) ((tl 61 p).take q' ++ [120]) (hd_not 61 p)
          have h8 : hd 61 p ++ 61 :: (tl 61 p).take q' ++ [120] = hd 61 p ++ 61 :: ((tl 61 p).take q' ++ [120]) := by simp
          unfold pc
          rw [if_neg (by simp), h8, h7.1, h7.2, h1]
          simp only []
          rw [h5]
theorem prs_place (k : Nat) (s : List UInt8) (e n : Nat) (h : prs k s = .error (e, n)) : n ≤ s.length ∧ ((e = 32 ∧ prs k (s.take n ++ [120]) = .error (32, n)) ∨ ((e = 30 ∨ e = 31) ∧ ∃ a, prs k (s.take n ++ [120]) = .ok a)) := by
  induction k generalizing s n with
  | zero =>
    simp [prs] at h
    obtain ⟨rfl, rfl⟩ := h
    exact ⟨by omega, .inl ⟨rfl, rfl⟩⟩
  | succ k ih =>
    have hsl : (hd 38 s).length ≤ s.length := List.Sublist.length_le (List.takeWhile_sublist _)
    unfold prs at h
    cases hp : pc (hd 38 s) with
    | error r =>
      obtain ⟨e', q⟩ := r
      rw [hp] at h
      simp at h
      obtain ⟨rfl, rfl⟩ := h
      obtain ⟨h1, h2, f, h3⟩ := pc_place _ _ _ (hd_not 38 s) hp
      refine ⟨by omega, .inr ⟨h2, [f], ?_⟩⟩
      have ht : s.take q = (hd 38 s).take q := by
        rcases hd_tl 38 s with ⟨_, h5, _⟩ | h5
        · rw [h5]
        · conv => lhs; rw [h5]
          rw [List.take_append_of_le_length (by omega)]
      have hn : 38 ∉ (hd 38 s).take q ++ [120] := by
        intro hx
        rcases List.mem_append.1 hx with hx | hx
        · exact notin_take _ (hd_not 38 s) hx
        · simp at hx
      rw [ht]
      unfold prs
      rw [(hd_all 38 _ hn).1, h3]
      simp
    | ok f =>
      rw [hp] at h
      simp only at h
      split at h
      · rename_i hlt
        rcases hd_tl 38 s with ⟨_, h5, _⟩ | h5
        · rw [h5] at hlt; omega
        · cases hq : prs k (tl 38 s) with
          | ok m => rw [hq] at h; simp [add] at h
          | error r =>
            obtain ⟨e', q⟩ := r
            rw [hq] at h
            simp [add] at h
            obtain ⟨rfl, rfl⟩ := h
            obtain ⟨h1, h2⟩ := ih _ _ hq
            have hl : s.length = (hd 38 s).length + 1 + (tl 38 s).length := by
              conv => lhs; rw [h5]
              simp
              omega
            have ht : s.take ((hd 38 s).length + 1 + q) ++ [120] = hd 38 s ++ 38 :: ((tl 38 s).take q ++ [120]) := by
              have h9 : ∀ (a b : List UInt8) (i : Nat), (a ++ 38 :: b).take (a.length + 1 + i) = a ++ 38 :: b.take i := fun a b i => by
                rw [List.take_append, List.take_of_length_le (by omega), show a.length + 1 + i - a.length = i + 1 by omega, List.take_succ_cons]
              have h10 := h9 (hd 38 s) (tl 38 s) q
              rw [← h5] at h10
              rw [h10]
              simp
            have h7 := hd_app 38 (hd 38 s) ((tl 38 s).take q ++ [120]) (hd_not 38 s)
            have hgo : prs (k + 1) (s.take ((hd 38 s).length + 1 + q) ++ [120]) = add f ((hd 38 s).length + 1) (prs k ((tl 38 s).take q ++ [120])) := by
              rw [ht]
              conv => lhs; unfold prs
              rw [h7.1, h7.2, hp]
              simp only [List.length_append, List.length_cons]
              rw [if_pos (by omega)]
            refine ⟨by omega, ?_⟩
            rw [hgo]
            rcases h2 with ⟨rfl, h2⟩ | ⟨h2, a, h3⟩
            · left
              rw [h2]
              exact ⟨rfl, rfl⟩
            · right
              rw [h3]
              exact ⟨h2, f :: a, rfl⟩
      · simp at h
/-- Where a form is wrong, what stands ahead of the place is not what is wrong. -/
theorem parse_place (s : List UInt8) (e n : Nat) (h : parse s = .error (e, n)) : n ≤ s.length ∧ ((e = 32 ∧ parse (s.take n ++ [120]) = .error (32, n)) ∨ ((e = 30 ∨ e = 31) ∧ ∃ a, parse (s.take n ++ [120]) = .ok a ∧ a ≠ [])) := by
  unfold parse at h
  split at h
  · simp at h
  · obtain ⟨h1, h2⟩ := prs_place 32 s e n h
    refine ⟨h1, ?_⟩
    unfold parse
    rw [if_neg (by simp)]
    rcases h2 with ⟨h2, h3⟩ | ⟨h2, a, h3⟩
    · exact .inl ⟨h2, h3⟩
    · exact .inr ⟨h2, a, h3, (prs_len 32 _ a h3).2⟩
end Go.Proofs.YtbmcaejbfjpmiaaDoor
