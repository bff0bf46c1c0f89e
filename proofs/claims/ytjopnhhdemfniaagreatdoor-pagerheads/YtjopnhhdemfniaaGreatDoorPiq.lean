import Derived.Test.YtjopnhhdemfniaaGreatDoorPip
import Derived.Test.YtjopnhhdemfniaaGreatDoorPik
import Derived.Test.YtjopnhhdemfniaaGreatDoorPih
import Derived.Test.YtjopnhhdemfniaaGreatDoorPij
/- What a commit comes to, of lists alone. -/
namespace Go.Proofs.YtjopnhhdemfniaaGreatDoor
def nxh (p : Pr) (root : Int) (note : Bs) : Hd := ⟨p.h.gen + 1, root, p.h.blocks, note⟩
def cmr (d : Ds) (p : Pr) (l : List Pg) (root : Int) (note : Bs) (gone : List Int) : Int × Ds × Pr :=
  if note.length ≠ 16 then (1, d, p) else
  if (l.all Pg.fresh && rsg (l.map Pg.number) && rsg gone) = false then (94, d, p) else
  if askv d p ≠ 0 then (askv d p, d, p.ask d) else
  if (decide (l.map Pg.number = (sel (p.ask d).use frb).take l.length) && gone.all (hasv (p.ask d).use · 1)) = false then (94, d, p.ask d) else
  if clo (after (p.ask d).use (l.map Pg.number) gone) l root = false then (94, d, p.ask d) else
  if (p.ask d).h.gen = 4611686018427387904 then (96, d, p.ask d) else
  (trv d l (nxh (p.ask d) root note), trd d l (nxh (p.ask d) root note), if trv d l (nxh (p.ask d) root note) = 0 then { p.ask d with h := nxh (p.ask d) root note, use := after (p.ask d).use (l.map Pg.number) gone } else { p.ask d with doubt := true })
theorem sel_mem {u : Us} {f : UInt8 → Bool} {z : Int} (h : z ∈ sel u f) : 2 ≤ z ∧ z < u.length := by
  unfold sel selk at h
  simp only [List.mem_map, List.mem_filter, List.mem_range, Bool.and_eq_true, decide_eq_true_eq] at h
  obtain ⟨n, ⟨h1, h2, _⟩, rfl⟩ := h
  omega
theorem trn_off (f : UInt8 → UInt8) (k : Nat) : ∀ (l : List Int) (u : Us), (∀ z ∈ l, z.toNat ≠ k) → (trn f u l).getD k 0 = u.getD k 0
  | [], _, _ => rfl
  | z :: l, u, h => by
    have e : trn f u (z :: l) = trn f (u.set z.toNat (f (u.getD z.toNat 0))) l := rfl
    rw [e, trn_off f k l _ (fun y hy => h y (List.mem_cons_of_mem _ hy))]
    have hz := h z List.mem_cons_self
    simp [hz]
theorem and_low (x : UInt8) : (x &&& 254) &&& 1 = 0 := by
  rw [UInt8.and_assoc, show (254 &&& 1 : UInt8) = 0 from rfl]
  simp
theorem trn_low (k : Nat) : ∀ (l : List Int) (u : Us), u.getD k 0 &&& 1 = 0 → (trn (· &&& 254) u l).getD k 0 &&& 1 = 0
  | [], _, h => h
  | z :: l, u, h => by
    have e : trn (· &&& 254) u (z :: l) = trn (· &&& 254) (u.set z.toNat (u.getD z.toNat 0 &&& 254)) l := rfl
    rw [e]
    apply trn_low k l
    by_cases hz : z.toNat = k
    · subst hz
      by_cases hl : z.toNat < u.length
      · simp only [List.getD_eq_getElem?_getD, List.getElem?_set_self hl, Option.getD_some]
        exact and_low _
      · rw [List.set_eq_of_length_le (by omega)]
        exact h
    · rw [List.getD_eq_getElem?_getD, List.getElem?_set_ne hz]
      simpa using h
theorem after_len (u : Us) (a b : List Int) : (after u a b).length = u.length := by
  unfold after
  rw [trn_len, trn_len]
theorem after_low (u : Us) (a b : List Int) (k : Nat) (hk : k < 2) (h : u.getD k 0 &&& 1 = 0) (ha : ∀ z ∈ a, 2 ≤ z) : (after u a b).getD k 0 &&& 1 = 0 := by
  unfold after
  rw [trn_off _ k _ _ (fun z hz => by have := ha z hz; omega)]
  exact trn_low k b u h
/-- A pager as it is behind Mount. -/
structure Prok (d : Ds) (p : Pr) : Prop where
  may : p.h.may = true
  blocks : p.h.blocks = (d.last.length : Int)
  len : p.use.length = d.last.length
  low0 : p.use.getD 0 0 &&& 1 = 0
  low1 : p.use.getD 1 0 &&& 1 = 0
theorem clo_root {u : Us} {l : List Pg} {root : Int} (h : clo u l root = true) (h0 : u.getD 0 0 &&& 1 = 0) (h1 : u.getD 1 0 &&& 1 = 0) : root = 0 ∨ 2 ≤ root ∧ root < u.length := by
  simp only [clo, Bool.and_eq_true, Bool.or_eq_true, decide_eq_true_eq] at h
  rcases h.1 with q | q
  · exact .inl q
  · right
    simp only [hasv, Bool.and_eq_true, decide_eq_true_eq] at q
    obtain ⟨⟨q1, q2⟩, q3⟩ := q
    refine ⟨?_, q2⟩
    by_cases r : root = 0
    · subst r
      rw [show ((0 : Int).toNat) = 0 from rfl, h0] at q3
      exact absurd q3 (by decide)
    · by_cases r1 : root = 1
      · subst r1
        rw [show ((1 : Int).toNat) = 1 from rfl, h1] at q3
        exact absurd q3 (by decide)
      · omega
theorem nxh_may {d : Ds} {p : Pr} {l : List Pg} {root : Int} {note : Bs} {gone : List Int} (hp : Prok d p) (hn : note.length = 16) (he : l.map Pg.number = (sel p.use frb).take l.length) (hc : clo (after p.use (l.map Pg.number) gone) l root = true) (hg : p.h.gen ≠ 4611686018427387904) : (nxh p root note).may = true := by
  have hm := hp.may
  have hge : ∀ z ∈ l.map Pg.number, 2 ≤ z := fun z hz => by
    rw [he] at hz
    exact (sel_mem (List.mem_of_mem_take hz)).1
  have hr := clo_root hc (after_low _ _ _ 0 (by omega) hp.low0 hge) (after_low _ _ _ 1 (by omega) hp.low1 hge)
  rw [after_len, hp.len] at hr
  have hb := hp.blocks
  unfold nxh
  simp only [Hd.may, isGn, Bool.and_eq_true, Bool.or_eq_true, decide_eq_true_eq] at hm ⊢
  omega
theorem num_in {p : Pr} {l : List Pg} (he : l.map Pg.number = (sel p.use frb).take l.length) (k : Nat) (hk : k < l.length) : 0 ≤ (l.map Pg.number).getD k 0 ∧ (l.map Pg.number).getD k 0 < p.use.length := by
  have hm : (l.map Pg.number).getD k 0 ∈ l.map Pg.number := by
    rw [List.getD_eq_getElem?_getD, List.getElem?_eq_getElem (by simpa using hk)]
    exact List.getElem_mem _
  rw [he] at hm
  have := sel_mem (List.mem_of_mem_take hm)
  rw [← he] at this
  omega
theorem gone_in {p : Pr} {gone : List Int} (h : gone.all (hasv p.use · 1) = true) (k : Nat) (hk : k < gone.length) : 0 ≤ gone.getD k 0 ∧ gone.getD k 0 < p.use.length := by
  have hm : gone.getD k 0 ∈ gone := by
    rw [List.getD_eq_getElem?_getD, List.getElem?_eq_getElem hk]
    exact List.getElem_mem _
  have := List.all_eq_true.1 h _ hm
  exact hasv_in this
end Go.Proofs.YtjopnhhdemfniaaGreatDoor
