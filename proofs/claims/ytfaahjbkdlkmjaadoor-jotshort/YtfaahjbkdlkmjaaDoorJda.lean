import Derived.Test.YtfaahjbkdlkmjaaDoorJcd
/- Jot: frames of the printer. -/
namespace Go.Proofs.YtfaahjbkdlkmjaaDoor
open Go Go.RowKit Go.Lib
set_option linter.unusedVariables false
set_option linter.unusedSimpArgs false
theorem owned_keep {w w' : World} {base : Nat} {e : TypeId} {size n : Nat} {v : Value} {xs : List Value} (h : w.ownsRowF base e size v n xs) (hb : Below w.heap.size w w') : w'.ownsRowF base e size v n xs := by
  refine ⟨h.1, ?_⟩
  rcases h.2 with q | ⟨g, cap, cur, fz, e1, e2, e3, e4⟩
  · exact .inl q
  · exact .inr ⟨g, cap, cur, fz, e1, e2, (hb.block g (Array.getElem?_eq_some_iff.1 e3).1).trans e3, e4⟩
theorem Pr.keep {B b : Nat} {l : Bs} {w w' : World} (h : Pr B b l w) (hb : Below w.heap.size w w') : Pr B b l w' := by
  rcases h with ⟨hB, v, hbk, hown, hne⟩ | ⟨hB, v, hbk, hown, hne⟩
  · exact .inl ⟨hB, v, (hb.block b (Array.getElem?_eq_some_iff.1 hbk).1).trans hbk, owned_keep hown hb, hne⟩
  · exact .inr ⟨hB, v, (hb.block b (Array.getElem?_eq_some_iff.1 hbk).1).trans hbk, owned_keep hown hb, hne⟩
theorem others_of {b : Option Nat} {w w' : World} (hb : Below w.heap.size w w') : OthersKept 5 b w w' :=
  fun k o hk _ _ => (hb.block k (Array.getElem?_eq_some_iff.1 hk).1).trans hk
/-- A box of another kind stands. -/
theorem box_keep {b k : Nat} {w w' : World} (h : OthersKept 5 (some b) w w') {cs : Array Value} {T : TypeId} {fz : Nat × Nat} (hk : w.heap[k]? = some (.cells cs T fz)) (hT : T ≠ 5) (hkb : k ≠ b) : w'.heap[k]? = some (.cells cs T fz) :=
  h k _ hk (fun q => hkb (Option.some.inj q)) (fun c f q => hT (by injection q))
theorem Pr.lt {B b : Nat} {l : Bs} {w : World} (h : Pr B b l w) : B ≤ b ∧ b < w.heap.size := by
  rcases h with ⟨hB, v, hbk, hown, hne⟩ | ⟨hB, v, hbk, hown, hne⟩
  · exact ⟨hB, (Array.getElem?_eq_some_iff.1 hbk).1⟩
  · exact ⟨hB, (Array.getElem?_eq_some_iff.1 hbk).1⟩
theorem box_keep' {b k : Nat} {w w' : World} (h : OthersKept 5 (some b) w w') {cs : Array Value} (hk : w.heap[k]? = some (.cells cs 61 (0, 0))) (hkb : k ≠ b) : w'.heap[k]? = some (.cells cs 61 (0, 0)) := box_keep h hk (by decide) hkb
/-- Where a printer's call goes on. -/
structure St (W0 : World) (B b : Nat) (l : Bs) (w wr : World) : Prop where
  pr : Pr B b l wr
  le : l.length ≤ 4000
  be : Below B w wr
  ok : OthersKept 5 (some b) w wr
  b0 : Below W0.heap.size W0 wr
  bs : B ≤ wr.heap.size
theorem St.of {W0 : World} {B b : Nat} {l : Bs} {w wr : World} (h0 : W0.heap.size ≤ B) (hw : Below W0.heap.size W0 w) (hp : Pr B b l wr) (hl : l.length ≤ 4000) (hb : Below B w wr) (ho : OthersKept 5 (some b) w wr) (hB : B ≤ w.heap.size) : St W0 B b l w wr :=
  ⟨hp, hl, hb, ho, hw.trans (hb.mono h0), Nat.le_trans hB hb.size⟩
/-- Nothing that stood was turned. -/
theorem St.quiet {W0 : World} {B b : Nat} {l : Bs} {w wr w' : World} (h : St W0 B b l w wr) (hb : Below wr.heap.size wr w') : St W0 B b l w w' :=
  ⟨h.pr.keep hb, h.le, h.be.trans (hb.mono h.bs), h.ok.trans (others_of hb), h.b0.trans (hb.mono h.b0.size), Nat.le_trans h.bs hb.size⟩
theorem St.alloc {W0 : World} {B b : Nat} {l : Bs} {w wr : World} (h : St W0 B b l w wr) (o : Obj) : St W0 B b l w (wr.alloc o) := h.quiet ((Below.refl _ _).alloc (Nat.le_refl _) o)
/-- Something more was printed. -/
theorem St.more {W0 : World} {B b : Nat} {l s : Bs} {w wr w' : World} (h0 : W0.heap.size ≤ B) (h : St W0 B b l w wr) (hl : l.length + s.length ≤ 4000) (hp : Pr B b (l ++ s) w') (hb : Below B wr w') (ho : OthersKept 5 (some b) wr w') : St W0 B b (l ++ s) w w' :=
  ⟨hp, by rw [List.length_append]; exact hl, h.be.trans hb, h.ok.trans ho, h.b0.trans (hb.mono h0), Nat.le_trans h.bs hb.size⟩
/-- What is printed of a value. -/
def PvC (j : J) : Prop := ∀ (na : Option Addr) (nc : Nat) (xa : Option Addr) (xc : Nat) (W0 : World) (B b : Nat) (l : Bs) (w : World), Env W0 → JP W0 na xa j → may j = true → Below W0.heap.size W0 w → W0.heap.size ≤ B → B ≤ w.heap.size → Pr B b l w → l.length ≤ 4000 →
  Calls Tryd.prog 13 #[.pointer (some ⟨b, 0, none⟩), vJ j.k j.n j.t na j.ns.length nc xa j.xs.length xc] w (PrO B b l (pt j) w)
theorem pt_len_le {xs : List J} {x : J} (f : Bool) (h : x ∈ xs) : (pt x).length ≤ (ptL f xs).length := by
  induction xs generalizing f with
  | nil => simp at h
  | cons y l ih =>
    rw [ptL_cons]
    rcases List.mem_cons.1 h with rfl | h
    · simp; omega
    · have := ih false h
      simp
      omega
theorem ptL_take_succ (xs : List J) (k : Nat) (x : J) (h : xs[k]? = some x) : ptL true (xs.take (k + 1)) = ptL true (xs.take k) ++ ((if k = 0 then [] else [44]) ++ pt x) := by
  have hk : k < xs.length := (List.getElem?_eq_some_iff.1 h).1
  have e : xs[k] = x := (List.getElem?_eq_some_iff.1 h).2
  rw [List.take_succ_eq_append_getElem hk, e]
  by_cases h0 : k = 0
  · subst h0
    simp [ptL_cons, ptL]
  · rw [if_neg h0]
    have hne : xs.take k ≠ [] := by
      intro q
      have := congrArg List.length q
      rw [List.length_take, Nat.min_eq_left (by omega)] at this
      exact h0 (by simpa using this)
    obtain ⟨y, l, hx⟩ := List.exists_cons_of_ne_nil hne
    rw [hx, List.cons_append, ptL_cons, ptL_cons, ptL_append, ptL_cons, ptL]
    simp
theorem ptL_take_le (xs : List J) (k : Nat) : (ptL true (xs.take k)).length ≤ (ptL true xs).length := by
  by_cases h : xs.take k = []
  · rw [h, ptL]; simp
  · have hx : xs ≠ [] := by intro q; subst q; simp at h
    have h1 := ptL_len h
    have h2 := ptL_len hx
    have h3 := congrArg (ptL false) (List.take_append_drop k xs).symm
    rw [ptL_append] at h3
    have := congrArg List.length h3
    rw [List.length_append] at this
    omega
end Go.Proofs.YtfaahjbkdlkmjaaDoor
