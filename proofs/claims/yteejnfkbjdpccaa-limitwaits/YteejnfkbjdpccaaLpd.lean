import Derived.Test.YteejnfkbjdpccaaLbi
namespace Go.Proofs.Yteejnfkbjdpccaa
open Go.RowKit Fl
theorem len_sub {l : List Bs} : ∀ {m : List Bs}, l.Nodup → (∀ a ∈ l, a ∈ m) → l.length ≤ m.length := by
  induction l with
  | nil => intro m _ _; simp
  | cons a l ih =>
    intro m hn hs
    rw [List.nodup_cons] at hn
    have ha : a ∈ m := hs a (List.mem_cons_self ..)
    have := ih (m := m.erase a) hn.2 (fun b hb => by
      have hne : b ≠ a := fun e => hn.1 (e ▸ hb)
      exact (List.mem_erase_of_ne hne).2 (hs b (List.mem_cons_of_mem _ hb)))
    rw [List.length_erase_of_mem ha] at this
    have hm : 0 < m.length := List.length_pos_of_mem ha
    rw [List.length_cons]
    omega
/-- The law's sixteen names. -/
def n16 : List Bs := (List.range 16).map fun (i : Nat) => nmv (i : Int)
theorem n16_mem {c : Int} (h0 : 0 ≤ c) (h1 : c < 16) : nmv c ∈ n16 := by
  unfold n16
  rw [List.mem_map]
  exact ⟨c.toNat, by rw [List.mem_range]; omega, by rw [show ((c.toNat : Nat) : Int) = c by omega]⟩
theorem nmv_inj {c d : Int} (h0 : 0 ≤ c) (h1 : c < 16) (g0 : 0 ≤ d) (g1 : d < 16) (h : nmv c = nmv d) : c = d := by
  unfold nmv at h
  simp only [List.cons.injEq, and_true, true_and] at h
  have := congrArg UInt8.toNat h
  rw [UInt8.toNat_ofNat', UInt8.toNat_ofNat'] at this
  omega
/-- All have one of these names, and no two the same one. -/
structure Dn (ks : List Bk) : Prop where
  nd : (ks.map (·.nm)).Nodup
  mem : ∀ k ∈ ks, k.nm ∈ n16
theorem Dn.few {ks : List Bk} (h : Dn ks) {s : Bs} (hs : s ∈ n16) : (ks.filter (fun o => o.nm != s)).length ≤ 15 := by
  have h1 : ((ks.filter (fun o => o.nm != s)).map (·.nm)).Nodup := h.nd.sublist ((List.filter_sublist).map _)
  have h2 := len_sub (m := n16.erase s) h1 (fun a ha => by
    obtain ⟨k, hk, rfl⟩ := List.mem_map.1 ha
    obtain ⟨hk1, hk2⟩ := List.mem_filter.1 hk
    have hne : k.nm ≠ s := by simpa using hk2
    exact (List.mem_erase_of_ne hne).2 (h.mem k hk1))
  rw [List.length_erase_of_mem hs, List.length_map] at h2
  have : n16.length = 16 := by decide
  omega
theorem Dn.keep {ks : List Bk} (h : Dn ks) {k : Bk} (hk : k.nm ∈ n16) : Dn (keep ks k) := by
  unfold Go.Proofs.Yteejnfkbjdpccaa.keep
  rw [List.take_of_length_le (h.few hk)]
  refine ⟨?_, fun o ho => ?_⟩
  · rw [List.map_cons, List.nodup_cons]
    refine ⟨fun hm => ?_, h.nd.sublist ((List.filter_sublist).map _)⟩
    obtain ⟨o, ho, he⟩ := List.mem_map.1 hm
    have := (List.mem_filter.1 ho).2
    simp [he] at this
  · rcases List.mem_cons.1 ho with e | e
    · rw [e]; exact hk
    · exact h.mem o (List.mem_filter.1 e).1
theorem fnd_same (ks : List Bk) (k : Bk) : fnd (keep ks k) k.nm = some k := by
  unfold fnd keep
  simp
theorem find_filter (l : List Bk) (s t : Bs) (h : s ≠ t) : (l.filter (fun o => o.nm != t)).find? (fun k => k.nm == s) = l.find? (fun k => k.nm == s) := by
  induction l with
  | nil => rfl
  | cons a l ih =>
    by_cases ha : a.nm = t
    · have e1 : (a.nm != t) = false := by simp [ha]
      have e2 : (a.nm == s) = false := by rw [ha]; simpa using fun q => h q.symm
      rw [List.filter_cons, e1, List.find?_cons, e2]
      exact ih
    · have e1 : (a.nm != t) = true := by simpa using ha
      rw [List.filter_cons, e1, if_pos rfl, List.find?_cons, List.find?_cons, ih]
theorem fnd_other {ks : List Bk} (h : Dn ks) {k : Bk} (hk : k.nm ∈ n16) {s : Bs} (hs : s ≠ k.nm) : fnd (keep ks k) s = fnd ks s := by
  unfold fnd keep
  rw [List.take_of_length_le (h.few hk), List.find?_cons]
  have e : (k.nm == s) = false := by simpa using fun q => hs q.symm
  rw [e]
  exact find_filter ks s k.nm hs
/-- A limiter of all, and one of one name. -/
structure Al (s : Bs) (x y : Li) : Prop where
  r : x.r = y.r
  b : x.b = y.b
  f : fnd x.ks s = fnd y.ks s
  d : Dn x.ks
  one : ∀ k ∈ y.ks, k.nm = s
  len : y.ks.length ≤ 1
theorem Al.has {s : Bs} {x y : Li} (h : Al s x y) : has x.b x.ks s = has y.b y.ks s := by unfold Go.Proofs.Yteejnfkbjdpccaa.has; rw [h.f, h.b]
theorem Al.level {s : Bs} {x y : Li} (h : Al s x y) (now : Int) : x.level s now = y.level s now := by unfold Li.level; rw [h.has, h.r, h.b]
theorem Al.told {s : Bs} {x y : Li} (h : Al s x y) (c : Nat) (now : Int) : x.told s c now = y.told s c now := by unfold Li.told; rw [h.level, h.has, h.r, h.b]
theorem Al.other {s : Bs} {x y : Li} (h : Al s x y) {t : Bs} (ht : t ∈ n16) (hne : s ≠ t) (c : Nat) (now : Int) : Al s (x.took t c now) y := by
  unfold Li.took
  split
  · exact h
  · split
    · exact h
    · exact ⟨h.r, h.b, (fnd_other h.d (k := ⟨t, _, _⟩) ht hne).trans h.f, h.d.keep ht, h.one, h.len⟩
theorem Al.same {s : Bs} {x y : Li} (h : Al s x y) (hs : s ∈ n16) (c : Nat) (now : Int) : Al s (x.took s c now) (y.took s c now) := by
  unfold Li.took
  rw [← h.level now, ← h.has]
  split
  · exact h
  · split
    · exact h
    · refine ⟨h.r, h.b, (fnd_same x.ks ⟨s, _, _⟩).trans (fnd_same y.ks ⟨s, _, _⟩).symm, h.d.keep hs, fun k hk => ?_, ?_⟩
      · unfold keep at hk
        rcases List.mem_cons.1 hk with e | e
        · rw [e]
        · exact h.one k (List.mem_filter.1 (List.mem_of_mem_take e)).1
      · have hf : y.ks.filter (fun o => o.nm != s) = [] := by
          rw [List.filter_eq_nil_iff]
          intro k hk
          simp [h.one k hk]
        show (keep y.ks ⟨s, _, _⟩).length ≤ 1
        unfold keep
        rw [hf]
        simp
theorem pkv_small {c n : Int} (h0 : 0 ≤ c) (h1 : c < n) : pkv c n = c := by
  unfold pkv
  rw [if_neg (by omega)]
  exact Int.emod_eq_of_lt h0 h1
theorem LAt.other {ty e ty' e' p q : Nat} {x y : Li} {w w' : World} (h : LAt ty e q y w) (hp : LAt ty' e' p x w) (o : Only (fun k => k = p) w w') (hne : q ≠ p) (ht : ty' ≠ e) : LAt ty e q y w' := by
  refine h.only o hne (fun k cs hk hkp => ?_)
  subst hkp
  obtain ⟨a, cap, h1, _⟩ := hp
  rw [h1] at hk
  injection hk with hk
  injection hk with _ hk2
  exact ht hk2
end Go.Proofs.Yteejnfkbjdpccaa
