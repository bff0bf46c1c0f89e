namespace Go.Proofs.YtknlafgaagimjaaDoor
abbrev Bs := List UInt8
/-! ### Names, lists, texts -/
def sg (c : UInt8) : Bool := (decide (97 ≤ c.toNat) && decide (c.toNat ≤ 122)) || (decide (48 ≤ c.toNat) && decide (c.toNat ≤ 57)) || c.toNat == 45 || c.toNat == 95 || c.toNat == 46
def nm (s : Bs) : Bool := decide (1 ≤ s.length) && decide (s.length ≤ 16) && s.all sg
def tl : List Bs → Bs
  | [] => []
  | x :: r => 32 :: (x ++ tl r)
def tx : List Bs → Bs
  | [] => []
  | a :: r => a ++ tl r
def many (l : List Bs) : Bool := decide (8 < l.length) || decide (60 < (tx l).length)
def up : List Bs → Bool
  | a :: b :: r => decide (a < b) && up (b :: r)
  | _ => true
def wr (l : List Bs) : Nat := if l.all nm && up l then (if many l then 61 else 0) else 60
def right (l : List Bs) : Bool := wr l == 0
def spl : Bs → List Bs
  | [] => [[]]
  | c :: r => if c = 32 then [] :: spl r else match spl r with
    | a :: t => (c :: a) :: t
    | [] => [[c]]
def ins (x : Bs) : List Bs → List Bs
  | [] => [x]
  | y :: r => if x < y then x :: y :: r else if x = y then y :: r else y :: ins x r
def rise (l : List Bs) : List Bs := l.foldr ins []
def bound (u : List Bs) : List Bs × Nat := if many u then ([], 61) else (u, 0)
def parse (s : Bs) : List Bs × Nat := if s = [] then ([], 0) else if (spl s).all nm then bound (rise (spl s)) else ([], 60)
def print (l : List Bs) : Bs × Nat := if wr l = 0 then (tx l, 0) else ([], wr l)
def within (a b : List Bs) : Bool := right a && right b && a.all fun x => b.contains x
def join (a b : List Bs) : List Bs × Nat := if right a && right b then bound (rise (a ++ b)) else ([], 60)
def meet (a b : List Bs) : List Bs := if right a && right b then a.filter fun x => b.contains x else []
def minus (a b : List Bs) : List Bs := if right a && right b then a.filter fun x => !b.contains x else []

/-! ### Order -/
theorem lt_irrefl' (a : Bs) : ¬ a < a := List.lt_irrefl a
theorem lt_trans' {a b c : Bs} (h : a < b) (h' : b < c) : a < c := List.lt_trans h h'
theorem lt_total' {a b : Bs} (h : ¬ a < b) (h' : a ≠ b) : b < a := by
  rcases Decidable.em (b < a) with h2 | h2
  · exact h2
  · exact absurd (List.le_antisymm (List.not_lt.1 h2) (List.not_lt.1 h)) h'
abbrev Rs (l : List Bs) : Prop := l.Pairwise (· < ·)
theorem up_iff : ∀ l : List Bs, up l = true ↔ Rs l
  | [] => by simp [up]
  | [a] => by simp [up]
  | a :: b :: r => by
    simp only [up, Bool.and_eq_true, decide_eq_true_eq, up_iff (b :: r)]
    constructor
    · rintro ⟨h, h2⟩
      refine List.pairwise_cons.2 ⟨fun x hx => ?_, h2⟩
      rcases List.mem_cons.1 hx with rfl | hx
      · exact h
      · exact lt_trans' h ((List.pairwise_cons.1 h2).1 x hx)
    · intro h
      exact ⟨(List.pairwise_cons.1 h).1 b (by simp), (List.pairwise_cons.1 h).2⟩
theorem up_of_get {l : List Bs} (h : ∀ i, (hi : i + 1 < l.length) → l[i] < l[i+1]) : up l = true := by
  induction l with
  | nil => rfl
  | cons a r ih =>
    cases r with
    | nil => rfl
    | cons b r =>
      simp only [up, Bool.and_eq_true, decide_eq_true_eq]
      refine ⟨by simpa using h 0 (by simp), ih fun i hi => ?_⟩
      have := h (i+1) (by simp only [List.length_cons] at hi ⊢; omega)
      simpa using this
theorem get_of_up {l : List Bs} (h : up l = true) (i : Nat) (hi : i + 1 < l.length) : l[i] < l[i+1] :=
  List.pairwise_iff_getElem.1 ((up_iff l).1 h) i (i+1) (by omega) hi (by omega)
theorem rs_ext {l l' : List Bs} (h : Rs l) (h' : Rs l') (hm : ∀ x, x ∈ l ↔ x ∈ l') : l = l' := by
  induction l generalizing l' with
  | nil =>
    cases l' with
    | nil => rfl
    | cons b r => exact absurd ((hm b).2 (by simp)) (by simp)
  | cons a r ih =>
    cases l' with
    | nil => exact absurd ((hm a).1 (by simp)) (by simp)
    | cons b r' =>
      obtain ⟨h1, h2⟩ := List.pairwise_cons.1 h
      obtain ⟨h3, h4⟩ := List.pairwise_cons.1 h'
      have e : a = b := by
        rcases List.mem_cons.1 ((hm a).1 (by simp)) with e | e
        · exact e
        rcases List.mem_cons.1 ((hm b).2 (by simp)) with e' | e'
        · exact e'.symm
        · exact absurd (lt_trans' (h1 b e') (h3 a e)) (lt_irrefl' _)
      subst e
      rw [ih h2 h4 fun x => ?_]
      constructor
      · intro hx
        rcases List.mem_cons.1 ((hm x).1 (by simp [hx])) with e | e
        · subst e; exact absurd (h1 _ hx) (lt_irrefl' _)
        · exact e
      · intro hx
        rcases List.mem_cons.1 ((hm x).2 (by simp [hx])) with e | e
        · subst e; exact absurd (h3 _ hx) (lt_irrefl' _)
        · exact e
theorem mem_ins {x z : Bs} : ∀ {l : List Bs}, z ∈ ins x l ↔ z = x ∨ z ∈ l
  | [] => by simp [ins]
  | y :: r => by
    unfold ins
    split
    · simp
    · split
      · rename_i e; subst e; simp
      · simp only [List.mem_cons, mem_ins (l := r)]
        constructor
        · rintro (h | h | h) <;> simp [h]
        · rintro (h | h | h) <;> simp [h]
theorem rs_ins {x : Bs} : ∀ {l : List Bs}, Rs l → Rs (ins x l)
  | [], _ => by simp [ins]
  | y :: r, h => by
    obtain ⟨h1, h2⟩ := List.pairwise_cons.1 h
    unfold ins
    split
    · rename_i hlt
      refine List.pairwise_cons.2 ⟨fun z hz => ?_, h⟩
      rcases List.mem_cons.1 hz with rfl | hz
      · exact hlt
      · exact lt_trans' hlt (h1 z hz)
    · split
      · exact h
      · rename_i h3 h4
        refine List.pairwise_cons.2 ⟨fun z hz => ?_, rs_ins h2⟩
        rcases mem_ins.1 hz with rfl | hz
        · exact lt_total' h3 h4
        · exact h1 z hz
theorem mem_rise {z : Bs} : ∀ {l : List Bs}, z ∈ rise l ↔ z ∈ l
  | [] => by simp [rise]
  | y :: r => by
    show z ∈ ins y (rise r) ↔ _
    rw [mem_ins, mem_rise]; simp
theorem rs_rise : ∀ l : List Bs, Rs (rise l)
  | [] => by simp [rise]
  | y :: r => rs_ins (rs_rise r)
theorem rise_of {l u : List Bs} (h : Rs u) (hm : ∀ x, x ∈ u ↔ x ∈ l) : rise l = u := rs_ext (rs_rise l) h fun x => mem_rise.trans (hm x).symm

/-! ### Scopes -/
theorem right_iff {l : List Bs} : right l = true ↔ (∀ x ∈ l, nm x = true) ∧ Rs l ∧ many l = false := by
  unfold right wr
  rw [← up_iff, ← List.all_eq_true]
  cases l.all nm <;> cases up l <;> cases many l <;> simp
theorem tl_len : ∀ {l l' : List Bs}, l.Sublist l' → (tl l).length ≤ (tl l').length := by
  intro l l' h
  induction h with
  | slnil => simp
  | cons a _ ih => simp only [tl, List.length_cons, List.length_append]; omega
  | cons_cons a _ ih => simp only [tl, List.length_cons, List.length_append]; omega
theorem tx_tl : ∀ l : List Bs, (tx l).length = (tl l).length - 1
  | [] => rfl
  | a :: r => by simp [tx, tl]
theorem many_sub {l l' : List Bs} (h : l.Sublist l') (hm : many l' = false) : many l = false := by
  simp only [many, Bool.or_eq_false_iff, decide_eq_false_iff_not, Nat.not_lt] at hm ⊢
  have h1 := h.length_le
  have h2 := tl_len h
  rw [tx_tl] at hm ⊢
  omega
theorem right_sub {l l' : List Bs} (h : l.Sublist l') (hr : right l' = true) : right l = true := by
  obtain ⟨h1, h2, h3⟩ := right_iff.1 hr
  exact right_iff.2 ⟨fun x hx => h1 x (h.subset hx), h2.sublist h, many_sub h h3⟩
theorem right_nil : right [] = true := by decide
theorem right_bound {l u : List Bs} (hn : ∀ x ∈ l, nm x = true) (h : bound (rise l) = (u, 0)) : u = rise l ∧ right u = true := by
  unfold bound at h
  split at h
  · simp at h
  · rename_i hm
    obtain ⟨rfl, _⟩ := Prod.mk.inj h
    exact ⟨rfl, right_iff.2 ⟨fun x hx => hn x (mem_rise.1 hx), rs_rise l, by simpa using hm⟩⟩
theorem bound_err {u : List Bs} : (bound u = (u, 0) ∧ many u = false) ∨ (bound u = ([], 61) ∧ many u = true) := by
  unfold bound
  cases many u <;> simp
theorem parse_right {s : Bs} {u : List Bs} (h : parse s = (u, 0)) : right u = true := by
  unfold parse at h
  split at h
  · obtain ⟨rfl, _⟩ := Prod.mk.inj h; exact right_nil
  · split at h
    · rename_i hn
      exact (right_bound (List.all_eq_true.1 hn) h).2
    · simp at h
theorem parse_err {s : Bs} {u : List Bs} {e : Nat} (h : parse s = (u, e)) : e = 0 ∨ (u = [] ∧ (e = 60 ∨ e = 61)) := by
  unfold parse at h
  split at h
  · obtain ⟨_, rfl⟩ := Prod.mk.inj h; exact .inl rfl
  · split at h
    · rcases bound_err (u := rise (spl s)) with ⟨h', _⟩ | ⟨h', _⟩ <;> rw [h'] at h <;> obtain ⟨rfl, rfl⟩ := Prod.mk.inj h
      · exact .inl rfl
      · exact .inr ⟨rfl, .inr rfl⟩
    · obtain ⟨rfl, rfl⟩ := Prod.mk.inj h; exact .inr ⟨rfl, .inl rfl⟩

/-! ### The laws of sets -/
theorem meet_eq {a b : List Bs} (ha : right a = true) (hb : right b = true) : meet a b = a.filter fun x => b.contains x := by simp [meet, ha, hb]
theorem minus_eq {a b : List Bs} (ha : right a = true) (hb : right b = true) : minus a b = a.filter fun x => !b.contains x := by simp [minus, ha, hb]
theorem meet_right {a b : List Bs} (ha : right a = true) (hb : right b = true) : right (meet a b) = true := by rw [meet_eq ha hb]; exact right_sub List.filter_sublist ha
theorem minus_right {a b : List Bs} (ha : right a = true) (hb : right b = true) : right (minus a b) = true := by rw [minus_eq ha hb]; exact right_sub List.filter_sublist ha
theorem mem_meet {a b : List Bs} (ha : right a = true) (hb : right b = true) {x : Bs} : x ∈ meet a b ↔ x ∈ a ∧ x ∈ b := by rw [meet_eq ha hb]; simp
theorem mem_minus {a b : List Bs} (ha : right a = true) (hb : right b = true) {x : Bs} : x ∈ minus a b ↔ x ∈ a ∧ x ∉ b := by rw [minus_eq ha hb]; simp
theorem meet_comm {a b : List Bs} (ha : right a = true) (hb : right b = true) : meet a b = meet b a :=
  rs_ext (right_iff.1 (meet_right ha hb)).2.1 (right_iff.1 (meet_right hb ha)).2.1 fun x => by rw [mem_meet ha hb, mem_meet hb ha]; exact And.comm
theorem join_eq {a b : List Bs} (ha : right a = true) (hb : right b = true) : join a b = bound (rise (a ++ b)) := by simp [join, ha, hb]
theorem join_comm {a b : List Bs} (ha : right a = true) (hb : right b = true) : join a b = join b a := by
  rw [join_eq ha hb, join_eq hb ha]
  rw [rise_of (rs_rise (b ++ a)) fun x => by rw [mem_rise]; simp [or_comm]]
theorem join_back {a b : List Bs} (ha : right a = true) (hb : right b = true) : join (meet a b) (minus a b) = (a, 0) := by
  rw [join_eq (meet_right ha hb) (minus_right ha hb), rise_of (right_iff.1 ha).2.1 (l := meet a b ++ minus a b) fun x => ?_, bound, (right_iff.1 ha).2.2]
  · rfl
  · rw [List.mem_append, mem_meet ha hb, mem_minus ha hb]
    constructor
    · intro h; rcases Decidable.em (x ∈ b) with h' | h'
      · exact .inl ⟨h, h'⟩
      · exact .inr ⟨h, h'⟩
    · rintro (h | h) <;> exact h.1
theorem join_errs {a b : List Bs} (ha : right a = true) (hb : right b = true) : (join a b).2 = 0 ∨ (join a b).2 = 61 := by
  rw [join_eq ha hb]
  rcases bound_err (u := rise (a ++ b)) with ⟨h, _⟩ | ⟨h, _⟩ <;> rw [h] <;> simp
theorem within_iff {a b : List Bs} (ha : right a = true) (hb : right b = true) : within a b = true ↔ ∀ x ∈ a, x ∈ b := by simp [within, ha, hb]
theorem within_minus {a b : List Bs} (ha : right a = true) (hb : right b = true) : within a b = ((minus a b).length == 0) := by
  rw [Bool.eq_iff_iff, within_iff ha hb]
  simp only [beq_iff_eq, List.length_eq_zero_iff, List.eq_nil_iff_forall_not_mem, mem_minus ha hb, not_and, Decidable.not_not]
theorem within_meet_l {a b : List Bs} (ha : right a = true) (hb : right b = true) : within (meet a b) a = true := (within_iff (meet_right ha hb) ha).2 fun _ h => ((mem_meet ha hb).1 h).1
theorem within_meet_r {a b : List Bs} (ha : right a = true) (hb : right b = true) : within (meet a b) b = true := (within_iff (meet_right ha hb) hb).2 fun _ h => ((mem_meet ha hb).1 h).2
theorem meet_minus {a b : List Bs} (ha : right a = true) (hb : right b = true) : meet (minus a b) b = [] := by
  rw [List.eq_nil_iff_forall_not_mem]
  intro x hx
  obtain ⟨h1, h2⟩ := (mem_meet (minus_right ha hb) hb).1 hx
  exact ((mem_minus ha hb).1 h1).2 h2
theorem parts_len {a b : List Bs} (ha : right a = true) (hb : right b = true) : (meet a b).length + (minus a b).length = a.length := by
  rw [meet_eq ha hb, minus_eq ha hb]
  generalize a = l
  induction l with
  | nil => rfl
  | cons y r ih =>
    rw [List.filter_cons, List.filter_cons]
    cases b.contains y
    · simp only [Bool.false_eq_true, if_false, Bool.not_false, if_true, List.length_cons]; omega
    · simp only [Bool.not_true, Bool.false_eq_true, if_false, if_true, List.length_cons]; omega
theorem join_mem {a b : List Bs} (ha : right a = true) (hb : right b = true) {x : List Bs} (hx : join a b = (x, 0)) : right x = true ∧ ∀ z, z ∈ x ↔ z ∈ a ∨ z ∈ b := by
  rw [join_eq ha hb] at hx
  obtain ⟨rfl, h⟩ := right_bound (l := a ++ b) (fun z hz => by
    rcases List.mem_append.1 hz with h | h
    · exact (right_iff.1 ha).1 z h
    · exact (right_iff.1 hb).1 z h) hx
  exact ⟨h, fun z => by rw [mem_rise, List.mem_append]⟩
theorem join_within_l {a b : List Bs} (ha : right a = true) (hb : right b = true) {x : List Bs} (hx : join a b = (x, 0)) : within a x = true := (within_iff ha (join_mem ha hb hx).1).2 fun _ h => ((join_mem ha hb hx).2 _).2 (.inl h)
theorem join_within_r {a b : List Bs} (ha : right a = true) (hb : right b = true) {x : List Bs} (hx : join a b = (x, 0)) : within b x = true := (within_iff hb (join_mem ha hb hx).1).2 fun _ h => ((join_mem ha hb hx).2 _).2 (.inr h)
theorem join_minus {a b : List Bs} (ha : right a = true) (hb : right b = true) {x : List Bs} (hx : join a b = (x, 0)) : minus x b = minus a b := by
  obtain ⟨h, h2⟩ := join_mem ha hb hx
  refine rs_ext (right_iff.1 (minus_right h hb)).2.1 (right_iff.1 (minus_right ha hb)).2.1 fun z => ?_
  rw [mem_minus h hb, mem_minus ha hb, h2 z]
  constructor
  · rintro ⟨h1 | h1, h3⟩
    · exact ⟨h1, h3⟩
    · exact absurd h1 h3
  · rintro ⟨h1, h3⟩; exact ⟨.inl h1, h3⟩
theorem join_len {a b : List Bs} (ha : right a = true) (hb : right b = true) {x : List Bs} (hx : join a b = (x, 0)) : x.length = b.length + (minus a b).length := by
  obtain ⟨h, h2⟩ := join_mem ha hb hx
  have e := parts_len h hb
  rw [join_minus ha hb hx] at e
  have e2 : meet x b = b := by
    refine rs_ext (right_iff.1 (meet_right h hb)).2.1 (right_iff.1 hb).2.1 fun z => ?_
    rw [mem_meet h hb, h2 z]
    exact ⟨fun h => h.2, fun h => ⟨.inr h, h⟩⟩
  rw [e2] at e
  exact e.symm

/-! ### There and back -/
theorem spl_ne (s : Bs) : spl s ≠ [] := by
  cases s with
  | nil => simp [spl]
  | cons c r => unfold spl; split <;> (try split) <;> simp
theorem spl_word : ∀ {a : Bs}, (∀ c ∈ a, c ≠ 32) → ∀ (t : Bs), spl (a ++ 32 :: t) = a :: spl t
  | [], _, t => by simp [spl]
  | c :: r, h, t => by
    have hc : c ≠ 32 := h c (by simp)
    show (if c = 32 then [] :: spl (r ++ 32 :: t) else match spl (r ++ 32 :: t) with | a :: t => (c :: a) :: t | [] => [[c]]) = _
    rw [if_neg hc, spl_word (fun x hx => h x (by simp [hx])) t]
theorem spl_one : ∀ {a : Bs}, (∀ c ∈ a, c ≠ 32) → spl a = [a]
  | [], _ => by simp [spl]
  | c :: r, h => by
    unfold spl
    rw [if_neg (h c (by simp)), spl_one (fun x hx => h x (by simp [hx]))]
theorem nm_no {a : Bs} (h : nm a = true) : ∀ c ∈ a, c ≠ 32 := by
  intro c hc e
  simp only [nm, Bool.and_eq_true] at h
  have := List.all_eq_true.1 h.2 c hc
  subst e
  exact absurd this (by decide)
theorem nm_ne {a : Bs} (h : nm a = true) : a ≠ [] := by
  intro e; subst e; exact absurd h (by decide)
theorem spl_tx : ∀ {l : List Bs}, l ≠ [] → (∀ x ∈ l, nm x = true) → spl (tx l) = l
  | [], h, _ => absurd rfl h
  | [a], _, h => by
    have := spl_one (nm_no (h a (by simp)))
    simpa [tx, tl] using this
  | a :: b :: r, _, h => by
    have ih := spl_tx (l := b :: r) (by simp) (fun x hx => h x (by simp [hx]))
    show spl (a ++ 32 :: (b ++ tl r)) = _
    rw [spl_word (nm_no (h a (by simp)))]
    exact congrArg (a :: ·) ih
theorem tx_ne {l : List Bs} (h : l ≠ []) (hn : ∀ x ∈ l, nm x = true) : tx l ≠ [] := by
  cases l with
  | nil => exact absurd rfl h
  | cons a r =>
    intro e
    have := nm_ne (hn a (by simp))
    simp [tx] at e
    exact this e.1
theorem parse_tx {l : List Bs} (h : right l = true) : parse (tx l) = (l, 0) := by
  obtain ⟨h1, h2, h3⟩ := right_iff.1 h
  by_cases e : l = []
  · subst e; rfl
  · unfold parse
    rw [if_neg (tx_ne e h1), spl_tx e h1, if_pos (List.all_eq_true.2 h1), rise_of h2 (fun _ => Iff.rfl), bound, h3]
    rfl
theorem right_small {l : List Bs} (h : right l = true) : l.length ≤ 8 ∧ (tx l).length ≤ 60 := by
  have := (right_iff.1 h).2.2
  simp only [many, Bool.or_eq_false_iff, decide_eq_false_iff_not, Nat.not_lt] at this
  exact this
theorem print_right {l : List Bs} (h : right l = true) : print l = (tx l, 0) := by
  unfold right at h; simp at h; simp [print, h]
theorem print_wrong {l : List Bs} (h : right l = false) : print l = ([], wr l) ∧ wr l ≠ 0 := by
  unfold right at h; simp at h; simp [print, h]
end Go.Proofs.YtknlafgaagimjaaDoor
