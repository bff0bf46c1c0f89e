import Derived.Test.YthlacailhfhjnaaGreatDoorWjh
import Derived.Test.YthlacailhfhjnaaGreatDoorWja
namespace Go.Proofs.YthlacailhfhjnaaGreatDoor
open Go.RowKit Go.Lib
def upd1 {α : Type} (f : Nat → α) (k : Nat) (v : α) : Nat → α := fun j => if j = k then v else f j
theorem upd1_eq {α : Type} (f : Nat → α) (k : Nat) (v : α) : upd1 f k v k = v := if_pos rfl
theorem upd1_ne {α : Type} (f : Nat → α) {k j : Nat} (v : α) (h : j ≠ k) : upd1 f k v j = f j := if_neg h
/-- Messages that came out of a piece, and what they must be. -/
structure EnM where
  v : Value
  z : Value
  l : List (Ms × Value)
  l2 : List (Ms × Value)
  M : Nat → Prop
  M2 : Nat → Prop
/-- The blocks that are neither a reader's nor a list's. -/
def kb (ra ya : Nat) (Y : Nat → Nat) (Z : Nat) (fr wa mm mw : Value) (j : Nat) : Prop := j = ra ∨ j = ya ∨ j = Y 0 ∨ j = Y 1 ∨ bkb Z fr wa mm mw j
/-- All that stands between two calls of the body. -/
structure FdJ (w0 : World) (Z ra ya : Nat) (R Y : Nat → Nat) (p : Nat → Ps) (O : Nat → Nat → Prop) (T : Nat → Bs) (ov : Nat → Bool) (E : List EnM) (fr wa mm mw : Value) (W : World) : Prop where
  rdr : ∀ k, k < 2 → Rdr (R k) (p k) (O k) W
  rfb : ∀ k, k < 2 → RfB (Y k) (T k) (ov k) W
  oo : ∀ a b, a < 2 → b < 2 → a ≠ b → ∀ j, O a j → ¬ O b j
  oh : ∀ k, k < 2 → ∀ j, O k j → w0.heap.size ≤ j
  ra_ : W.heap[ra]? = some (.cells #[ptr (R 0), ptr (R 1)] 42 (0, 0))
  ya_ : W.heap[ya]? = some (.cells #[ptr (Y 0), ptr (Y 1)] 45 (0, 0))
  yy : Y 0 ≠ Y 1
  yh : ∀ k, k < 2 → w0.heap.size ≤ Y k
  off : ∀ k, k < 2 → ∀ j, O k j → ¬ kb ra ya Y Z fr wa mm mw j
  bk : BkM Z ((E.flatMap (·.l)).map (·.2)) ((E.flatMap (·.l2)).map (·.2)) (E.map (·.v)) (E.map (·.z)) fr wa mm mw W
  bh : ∀ j, bkb Z fr wa mm mw j → w0.heap.size ≤ j
  ent : ∀ e ∈ E, MAt e.v e.l e.M W ∧ MAt e.z e.l2 e.M2 W ∧ e.l.map (·.1) = e.l2.map (·.1) ∧ (∀ m ∈ e.l, m.1.hs.length ≤ 33)
  eoff : ∀ e ∈ E, ∀ j, (e.M j ∨ e.M2 j) → ¬ kb ra ya Y Z fr wa mm mw j ∧ ∀ k, k < 2 → ¬ O k j
  eh : ∀ e ∈ E, ∀ j, e.M j → w0.heap.size ≤ j
  epw : E.Pairwise (fun a b => ∀ j, a.M j → ¬ b.M j)
  bel : Below w0.heap.size w0 W
section
variable {w0 : World} {Z ra ya : Nat} {R Y : Nat → Nat} {p : Nat → Ps} {O : Nat → Nat → Prop} {T : Nat → Bs} {ov : Nat → Bool} {E : List EnM} {fr wa mm mw : Value} {W W' : World}
theorem kb_Y {j : Nat} (hj : j < 2) : kb ra ya Y Z fr wa mm mw (Y j) := by
  rcases (by omega : j = 0 ∨ j = 1) with rfl | rfl
  · exact .inr (.inr (.inl rfl))
  · exact .inr (.inr (.inr (.inl rfl)))
theorem FdJ.kb_lt (h : FdJ w0 Z ra ya R Y p O T ov E fr wa mm mw W) {j : Nat} (hj : kb ra ya Y Z fr wa mm mw j) : j < W.heap.size := by
  rcases hj with rfl | rfl | rfl | rfl | q
  · exact lt_of_row h.ra_
  · exact lt_of_row h.ya_
  · exact lt_of_row (h.rfb 0 (by decide))
  · exact lt_of_row (h.rfb 1 (by decide))
  · exact h.bk.lt q
/-- What leaves all of that. -/
theorem FdJ.only (h : FdJ w0 Z ra ya R Y p O T ov E fr wa mm mw W) {X : Nat → Prop} (ho : Only X W W') (hO : ∀ k, k < 2 → ∀ j, O k j → ¬ X j) (hk : ∀ j, kb ra ya Y Z fr wa mm mw j → ¬ X j) (hE : ∀ e ∈ E, ∀ j, (e.M j ∨ e.M2 j) → ¬ X j) (hX : ∀ j, X j → w0.heap.size ≤ j) : FdJ w0 Z ra ya R Y p O T ov E fr wa mm mw W' :=
  ⟨fun k hk2 => (h.rdr k hk2).keep ho (hO k hk2), fun k hk2 => (ho.block _ (lt_of_row (h.rfb k hk2)) (hk _ (kb_Y hk2))).trans (h.rfb k hk2), h.oo, h.oh, (ho.block _ (lt_of_row h.ra_) (hk _ (.inl rfl))).trans h.ra_, (ho.block _ (lt_of_row h.ya_) (hk _ (.inr (.inl rfl)))).trans h.ya_, h.yy, h.yh, h.off, h.bk.keep ho (fun k q => hk k (.inr (.inr (.inr (.inr q))))), h.bh,
   fun e he => ⟨(h.ent e he).1.keep ho (fun j hj => hE e he j (.inl hj)), (h.ent e he).2.1.keep ho (fun j hj => hE e he j (.inr hj)), (h.ent e he).2.2⟩, h.eoff, h.eh, h.epw, ho.below h.bel h.bel.size hX⟩
theorem FdJ.below (h : FdJ w0 Z ra ya R Y p O T ov E fr wa mm mw W) (hb : Below W.heap.size W W') : FdJ w0 Z ra ya R Y p O T ov E fr wa mm mw W' :=
  h.only (Only.of_below (P := fun _ => False) hb) (fun _ _ _ _ q => q) (fun _ _ q => q) (fun _ _ _ _ q => q) (fun _ q => q.elim)
/-- Messages that are not noted yet. -/
structure Pnd (w0 : World) (ra ya : Nat) (Y : Nat → Nat) (Z : Nat) (fr wa mm mw : Value) (O : Nat → Nat → Prop) (V : Value) (l : List (Ms × Value)) (M : Nat → Prop) (W : World) : Prop where
  mat : MAt V l M W
  off : ∀ j, M j → ¬ kb ra ya Y Z fr wa mm mw j ∧ ∀ k, k < 2 → ¬ O k j
  high : ∀ j, M j → w0.heap.size ≤ j
theorem Pnd.below {V : Value} {l : List (Ms × Value)} {M : Nat → Prop} (h : Pnd w0 ra ya Y Z fr wa mm mw O V l M W) (hb : Below W.heap.size W W') : Pnd w0 ra ya Y Z fr wa mm mw O V l M W' := ⟨h.mat.keep (Only.of_below (P := fun _ => False) hb) (fun _ _ q => q), h.off, h.high⟩
theorem fdj_feed {B : Nat} (h : FdJ w0 Z ra ya R Y p O T ov E fr wa mm mw W) (hE : Env B w0) (k : Nat) (hk : k < 2) (s : Bs) (hs : s.length ≤ 1000000000000) (hrd : (p k).rd + s.length ≤ 4000000000000000000) :
    Calls Tryz.prog 21 #[ptr (R k), S s] W fun e w' => ∃ V, e = .returned (.tuple #[V, .int .i64 (feed (p k) s).2.2]) ∧ ∃ O' l M, FdJ w0 Z ra ya R Y (upd1 p k (feed (p k) s).1) O' T ov E fr wa mm mw w' ∧ (feed (p k) s).2.1 = l.map (·.1) ∧ Pnd w0 ra ya Y Z fr wa mm mw O' V l M w' ∧ (∀ e ∈ E, ∀ j, e.M j → ¬ M j) := by
  refine (feed_any (h.rdr k hk) (hE.below (h.bel.mono hE.le)) (fun j hj => Nat.le_trans hE.le (h.oh k hk j hj)) s hs hrd).mono ?_
  rintro e w' ⟨V, rfl, hF⟩
  obtain ⟨l, On, M, e1, hm, hr', s1, s2, s3⟩ := hF.ex
  have hsz := h.bel.size
  have kbn : ∀ j, (O k j ∨ W.heap.size ≤ j) → ¬ kb ra ya Y Z fr wa mm mw j := fun j q r => by
    rcases q with q | q
    · exact h.off k hk j q r
    · have := h.kb_lt r; omega
  have h1 := h.only hF.only
  have key : ∀ a, a < 2 → a ≠ k → ∀ j, O a j → ¬ (O k j ∨ W.heap.size ≤ j) := fun a ha hne j q r => by
    rcases r with r | r
    · exact h.oo a k ha hk hne j q r
    · have := (h.rdr a ha).lt j q; omega
  have ekey : ∀ e ∈ E, ∀ j, (e.M j ∨ e.M2 j) → ¬ (O k j ∨ W.heap.size ≤ j) := fun e he j q r => by
    rcases r with r | r
    · exact (h.eoff e he j q).2 k hk r
    · rcases q with q | q
      · have := (h.ent e he).1.lt j q; omega
      · have := (h.ent e he).2.1.lt j q; omega
  have ono : ∀ a, a < 2 → a ≠ k → Rdr (R a) (p a) (O a) w' := fun a ha hne => (h.rdr a ha).keep hF.only (fun j q r => key a ha hne j q (.inl r))
  refine ⟨V, rfl, upd1 O k On, l, M, ⟨fun a ha => ?_, fun a ha => ?_, fun a b ha hb hab j q r => ?_, fun a ha j q => ?_, ?_, ?_, h.yy, h.yh, fun a ha j q => ?_, ?_, h.bh, fun e he => ?_, fun e he j q => ⟨(h.eoff e he j q).1, fun a ha r => ?_⟩, h.eh, h.epw, ?_⟩, e1, ⟨hm, fun j q => ⟨kbn j (s2 j q), fun a ha r => ?_⟩, fun j q => ?_⟩, fun e he j q r => ?_⟩
  · by_cases hak : a = k
    · subst hak
      rw [upd1_eq, upd1_eq]
      exact hr'
    · rw [upd1_ne _ _ hak, upd1_ne _ _ hak]
      exact ono a ha hak
  · exact (hF.only.block _ (lt_of_row (h.rfb a ha)) (fun q => h.off k hk _ q (kb_Y ha))).trans (h.rfb a ha)
  · by_cases hak : a = k
    · subst hak
      rw [upd1_eq] at q
      rw [upd1_ne _ _ (Ne.symm hab)] at r
      exact key b hb (Ne.symm hab) j r (s1 j q)
    · rw [upd1_ne _ _ hak] at q
      by_cases hbk : b = k
      · subst hbk
        rw [upd1_eq] at r
        exact key a ha hak j q (s1 j r)
      · rw [upd1_ne _ _ hbk] at r
        exact h.oo a b ha hb hab j q r
  · by_cases hak : a = k
    · subst hak
      rw [upd1_eq] at q
      rcases s1 j q with r | r
      · exact h.oh a hk j r
      · omega
    · rw [upd1_ne _ _ hak] at q
      exact h.oh a ha j q
  · exact (hF.only.block _ (lt_of_row h.ra_) (fun q => h.off k hk _ q (.inl rfl))).trans h.ra_
  · exact (hF.only.block _ (lt_of_row h.ya_) (fun q => h.off k hk _ q (.inr (.inl rfl)))).trans h.ya_
  · by_cases hak : a = k
    · subst hak
      rw [upd1_eq] at q
      exact kbn j (s1 j q)
    · rw [upd1_ne _ _ hak] at q
      exact h.off a ha j q
  · exact h.bk.keep hF.only (fun j q r => h.off k hk j r (.inr (.inr (.inr (.inr q)))))
  · exact ⟨(h.ent e he).1.keep hF.only (fun j q r => ekey e he j (.inl q) (.inl r)), (h.ent e he).2.1.keep hF.only (fun j q r => ekey e he j (.inr q) (.inl r)), (h.ent e he).2.2⟩
  · by_cases hak : a = k
    · subst hak
      rw [upd1_eq] at r
      exact ekey e he j q (s1 j r)
    · rw [upd1_ne _ _ hak] at r
      exact (h.eoff e he j q).2 a ha r
  · exact hF.only.below h.bel hsz (h.oh k hk)
  · by_cases hak : a = k
    · subst hak
      rw [upd1_eq] at r
      exact s3 j r q
    · rw [upd1_ne _ _ hak] at r
      exact key a ha hak j r (s2 j q)
  · rcases s2 j q with r | r
    · exact h.oh k hk j r
    · omega
  · exact ekey e he j (.inl q) (s2 j r)
theorem fdj_ref (h : FdJ w0 Z ra ya R Y p O T ov E fr wa mm mw W) (k : Nat) (hk : k < 2) (q : Ps) (hl : Lk q (T k) (ov k)) (s : Bs) (hs : (T k).length + s.length ≤ 1000000000000) {V : Value} {l : List (Ms × Value)} {M : Nat → Prop} (hp : Pnd w0 ra ya Y Z fr wa mm mw O V l M W) :
    Calls Tryz.prog 22 #[ptr (Y k), S s] W fun e w' => ∃ V2, e = .returned (.tuple #[V2, .int .i64 (feed q s).2.2]) ∧ ∃ T2 ov2 l2 M2, FdJ w0 Z ra ya R Y p O (upd1 T k T2) (upd1 ov k ov2) E fr wa mm mw w' ∧ Pnd w0 ra ya Y Z fr wa mm mw O V l M w' ∧ Pnd w0 ra ya Y Z fr wa mm mw O V2 l2 M2 w' ∧ (feed q s).2.1 = l2.map (·.1) ∧ Lk (feed q s).1 T2 ov2 ∧ T2.length ≤ (T k).length + s.length := by
  refine (refFeed_any (Y k) q (T k) s (ov k) W (h.rfb k hk) hl hs).mono ?_
  rintro e w' ⟨V2, rfl, hT⟩
  obtain ⟨l2, M2, e1, hm2, hn2⟩ := hT.mat
  obtain ⟨T2, ov2, hb2, hl2, ht2⟩ := hT.box
  have kY : kb ra ya Y Z fr wa mm mw (Y k) := kb_Y hk
  have kOb := h.rfb k hk
  have bne : ∀ j, bkb Z fr wa mm mw j → ¬ j = Y k := fun j q e => by
    subst e
    obtain ⟨c, t, e2, e3⟩ := h.bk.kinds q
    have := kind_ne e2 kOb (by rcases e3 with rfl | rfl | rfl <;> decide)
    exact this rfl
  refine ⟨V2, rfl, T2, ov2, l2, M2, ⟨fun a ha => (h.rdr a ha).keep hT.only (fun j q e => ?_), fun a ha => ?_, h.oo, h.oh, ?_, ?_, h.yy, h.yh, h.off, h.bk.keep hT.only bne, h.bh, fun e he => ⟨(h.ent e he).1.keep hT.only (fun j q e' => ?_), (h.ent e he).2.1.keep hT.only (fun j q e' => ?_), (h.ent e he).2.2⟩, h.eoff, h.eh, h.epw, hT.only.below h.bel h.bel.size (fun j e => by subst e; exact h.yh k hk)⟩, ⟨hp.mat.keep hT.only (fun j q e => ?_), hp.off, hp.high⟩, ⟨hm2, fun j q => ⟨fun r => ?_, fun a ha r => ?_⟩, fun j q => Nat.le_trans h.bel.size (hn2 j q)⟩, e1, hl2, ht2⟩
  · subst e; exact h.off a ha _ q kY
  · by_cases hak : a = k
    · subst hak
      rw [upd1_eq, upd1_eq]
      exact hb2
    · rw [upd1_ne _ _ hak, upd1_ne _ _ hak]
      refine (hT.only.block _ (lt_of_row (h.rfb a ha)) (fun e => ?_)).trans (h.rfb a ha)
      have h01 := h.yy
      rcases (by omega : a = 0 ∨ a = 1) with rfl | rfl <;> rcases (by omega : k = 0 ∨ k = 1) with rfl | rfl
      · exact hak rfl
      · exact h01 e
      · exact h01 e.symm
      · exact hak rfl
  · exact (hT.only.block _ (lt_of_row h.ra_) (kind_ne h.ra_ kOb (by decide))).trans h.ra_
  · exact (hT.only.block _ (lt_of_row h.ya_) (kind_ne h.ya_ kOb (by decide))).trans h.ya_
  · subst e'; exact (h.eoff e he _ (.inl q)).1 kY
  · subst e'; exact (h.eoff e he _ (.inr q)).1 kY
  · subst e; exact (hp.off _ q).1 kY
  · have := h.kb_lt r; have := hn2 j q; omega
  · have := (h.rdr a ha).lt j r; have := hn2 j q; omega
theorem fdj_takes (h : FdJ w0 Z ra ya R Y p O T ov E fr wa mm mw W) {p1 p2 : Option Addr} {n c1 c2 : Nat} {l l2 : List (Ms × Value)} {M M2 : Nat → Prop} (hp : Pnd w0 ra ya Y Z fr wa mm mw O (.slice p1 n c1) l M W) (hp2 : Pnd w0 ra ya Y Z fr wa mm mw O (.slice p2 n c2) l2 M2 W) (hl : l.length = n) (he : l.map (·.1) = l2.map (·.1)) (hh : ∀ m ∈ l, m.1.hs.length ≤ 33) (hap : ∀ e ∈ E, ∀ j, e.M j → ¬ M j)
    (hx : (E.flatMap (·.l)).length + n ≤ 10000000000) (hy : (E.flatMap (·.l2)).length + n ≤ 10000000000) (hu : E.length ≤ 10000000000) :
    Calls Tryz.prog 24 #[.pointer (some ⟨Z, 0, none⟩), .slice p1 n c1, .slice p2 n c2] W fun e w' => e = .returned (.tuple #[]) ∧ ∃ fr' wa' mm' mw', FdJ w0 Z ra ya R Y p O T ov (E ++ [⟨.slice p1 n c1, .slice p2 n c2, l, l2, M, M2⟩]) fr' wa' mm' mw' w' := by
  have hl2 : l2.length = n := by
    have := congrArg List.length he
    simp at this
    omega
  refine (takes_any Z _ _ _ _ fr wa mm mw p1 p2 n c1 c2 l l2 M M2 W h.bk hp.mat hp2.mat hl hl2 (by simpa using hx) (by simpa using hy) (by simpa using hu) (by simpa using hu)).mono ?_
  rintro e w' ⟨rfl, fr', wa', mm', mw', hB, hO, hn⟩
  have hsz := h.bel.size
  have bk4 : ∀ j, bkb Z fr wa mm mw j → kb ra ya Y Z fr wa mm mw j := fun j q => .inr (.inr (.inr (.inr q)))
  have nb : ∀ j (c : Array Value) (t : TypeId), W.heap[j]? = some (.cells c t (0, 0)) → t ≠ 53 → t ≠ 22 → t ≠ 54 → ¬ bkb Z fr wa mm mw j := fun j c t e n1 n2 n3 q => by
    obtain ⟨c2, t2, e2, e3⟩ := h.bk.kinds q
    rw [e] at e2
    cases e2
    rcases e3 with e3 | e3 | e3
    · exact n1 e3
    · exact n2 e3
    · exact n3 e3
  have kbn : ∀ j, ¬ kb ra ya Y Z fr wa mm mw j → j < W.heap.size → ¬ kb ra ya Y Z fr' wa' mm' mw' j := by
    rintro j h1 h2 (q | q | q | q | q)
    · exact h1 (.inl q)
    · exact h1 (.inr (.inl q))
    · exact h1 (.inr (.inr (.inl q)))
    · exact h1 (.inr (.inr (.inr (.inl q))))
    · rcases hn j q with r | r
      · exact h1 (bk4 j r)
      · omega
  have pnd : ∀ {V : Value} {l : List (Ms × Value)} {M : Nat → Prop}, Pnd w0 ra ya Y Z fr wa mm mw O V l M W → MAt V l M w' := fun q => q.mat.keep hO (fun j a b => (q.off j a).1 (bk4 j b))
  refine ⟨rfl, fr', wa', mm', mw', ⟨fun a ha => (h.rdr a ha).keep hO (fun j q r => h.off a ha j q (bk4 j r)), fun a ha => (hO.block _ (lt_of_row (h.rfb a ha)) (nb _ _ _ (h.rfb a ha) (by decide) (by decide) (by decide))).trans (h.rfb a ha), h.oo, h.oh, (hO.block _ (lt_of_row h.ra_) (nb _ _ _ h.ra_ (by decide) (by decide) (by decide))).trans h.ra_, (hO.block _ (lt_of_row h.ya_) (nb _ _ _ h.ya_ (by decide) (by decide) (by decide))).trans h.ya_, h.yy, h.yh, fun a ha j q => kbn j (h.off a ha j q) ((h.rdr a ha).lt j q), ?_, fun j q => ?_, fun e he' => ?_, fun e he' j q => ?_, fun e he' j q => ?_, ?_, hO.below h.bel hsz h.bh⟩⟩
  · simpa [List.flatMap_append, List.map_append] using hB
  · rcases hn j q with r | r
    · exact h.bh j r
    · omega
  · rcases List.mem_append.1 he' with q | q
    · exact ⟨(h.ent e q).1.keep hO (fun j a b => (h.eoff e q j (.inl a)).1 (bk4 j b)), (h.ent e q).2.1.keep hO (fun j a b => (h.eoff e q j (.inr a)).1 (bk4 j b)), (h.ent e q).2.2⟩
    · rw [List.mem_singleton.1 q]
      exact ⟨pnd hp, pnd hp2, he, hh⟩
  · rcases List.mem_append.1 he' with r | r
    · refine ⟨kbn j (h.eoff e r j q).1 ?_, (h.eoff e r j q).2⟩
      rcases q with q | q
      · exact (h.ent e r).1.lt j q
      · exact (h.ent e r).2.1.lt j q
    · rw [List.mem_singleton.1 r] at q
      rcases q with q | q
      · exact ⟨kbn j (hp.off j q).1 (hp.mat.lt j q), (hp.off j q).2⟩
      · exact ⟨kbn j (hp2.off j q).1 (hp2.mat.lt j q), (hp2.off j q).2⟩
  · rcases List.mem_append.1 he' with r | r
    · exact h.eh e r j q
    · rw [List.mem_singleton.1 r] at q
      exact hp.high j q
  · rw [List.pairwise_append]
    refine ⟨h.epw, List.pairwise_singleton _ _, fun a ha b hb => ?_⟩
    rw [List.mem_singleton.1 hb]
    exact hap a ha
end
set_option maxHeartbeats 4000000 in
theorem rNewReader_any (w : World) : Calls Tryz.prog 20 #[] w fun e w' => e = .returned (ptr w.heap.size) ∧ w' = w.alloc (.cells #[S [], .bool false] 86) := by
  go_enter Tryz.func20, Tryz.ntmps20
  go_wp2
  go_ret
  exact ⟨rfl, rfl⟩
set_option maxHeartbeats 4000000 in
theorem rWaiting_any (Y : Nat) (T : Bs) (ov : Bool) (w : World) (h : RfB Y T ov w) : Calls Tryz.prog 26 #[ptr Y] w fun e w' => e = .returned (.int .i64 (T.length : Int)) ∧ w' = w := by
  have c0 : w.cell? ⟨Y, 0, none⟩ = some (S T) := cell_of_row w Y 0 _ 86 (0, 0) h
  clear h
  go_enter Tryz.func26, Tryz.ntmps26
  go_wp2
  go_ret
  exact ⟨rfl, rfl⟩
end Go.Proofs.YthlacailhfhjnaaGreatDoor
