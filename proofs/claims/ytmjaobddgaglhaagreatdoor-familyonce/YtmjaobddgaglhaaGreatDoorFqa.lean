import Derived.Test.YtmjaobddgaglhaaGreatDoorZdetl
import Derived.Test.YtmjaobddgaglhaaGreatDoorZfpa
import Derived.Test.YtmjaobddgaglhaaGreatDoorZfmi
import Derived.Maps.AppendAt
/- A book of a family in memory. -/
namespace Go.Proofs.YtmjaobddgaglhaaGreatDoor
open Go.RowKit
set_option maxHeartbeats 4000000
set_option maxRecDepth 8000
/-- A token. -/
structure Tk where
  ti : Int
  tg : Int
  ha : Bs
  mi : Int
  sp : Bool
  at9 : Int
  ne : Int
  se : Bs
def tkc (t : Tk) : List Value := [I t.ti, I 7, I t.tg, S t.ha, I t.mi, .bool t.sp, I t.at9, I t.ne, S t.se]
def tks (l : List Tk) : List Value := l.flatMap tkc
theorem tkc_len (t : Tk) : (tkc t).length = 9 := rfl
theorem tks_len (l : List Tk) : (tks l).length = l.length * 9 := by
  induction l with
  | nil => rfl
  | cons t l ih => simp only [tks, List.flatMap_cons, List.length_append, List.length_cons, tkc_len] at *; omega
theorem tks_cat (l m : List Tk) : tks (l ++ m) = tks l ++ tks m := by simp [tks]
theorem tks_at (l : List Tk) (k : Nat) (t : Tk) (h : l[k]? = some t) : ((tks l).drop (k * 9)).take 9 = tkc t := by
  induction l generalizing k with
  | nil => simp at h
  | cons x l ih =>
    cases k with
    | zero =>
      simp at h
      subst h
      simp [tks, tkc]
    | succ k =>
      have h2 : l[k]? = some t := by simpa using h
      have := ih k h2
      rw [show tks (x :: l) = tkc x ++ tks l by simp [tks], show (k + 1) * 9 = (tkc x).length + k * 9 by rw [tkc_len]; omega, ← List.drop_drop, List.drop_left]
      exact this
theorem tks_set (l : List Tk) (k : Nat) (t : Tk) (h : k < l.length) : (tks l).take (k * 9) ++ tkc t ++ (tks l).drop (k * 9 + 9) = tks (l.set k t) := by
  induction l generalizing k with
  | nil => simp at h
  | cons x l ih =>
    cases k with
    | zero => simp [tks, tkc]
    | succ k =>
      have := ih k (by simpa using h)
      rw [List.set_cons_succ, show tks (x :: l) = tkc x ++ tks l by simp [tks], show tks (x :: l.set k t) = tkc x ++ tks (l.set k t) by simp [tks], ← this]
      rw [show (k + 1) * 9 = (tkc x).length + k * 9 by rw [tkc_len]; omega, List.take_append, List.take_of_length_le (by omega), Nat.add_sub_cancel_left, show (tkc x).length + k * 9 + 9 = (tkc x).length + (k * 9 + 9) by omega, ← List.drop_drop, List.drop_left]
      simp [List.append_assoc]
theorem tkc_one (t : Tk) : ∀ u ∈ tkc t, u.oneCell' = true := by
  intro u hu
  simp [tkc] at hu
  rcases hu with rfl | rfl | rfl | rfl | rfl | rfl | rfl | rfl | rfl <;> rfl
/-- What a book's block holds. -/
def bkc (cr us idl ab gr ge tk st en : Int) (v vl vs : Value) (ed : Bool) (u9 : Int) : Array Value := #[I 7, S tApp, S tAnn, v, I cr, I us, I idl, I ab, I gr, I ge, I tk, I st, I en, I 0, vl, vs, .bool ed, I u9]
/-- A list of tokens of one's own; a list of numbers. -/
def TkO (B : Nat) (w : World) (v : Value) (l : List Tk) : Prop := w.ownsRow B 26 9 v l.length (tks l)
def NmO (B : Nat) (w : World) (v : Value) (l : List Int) : Prop := w.ownsRow B 3 1 v l.length (l.map fun z => I z)
theorem row_keepB {w w' : World} {B : Nat} {e : TypeId} {n m : Nat} {v : Value} {xs : List Value} (h : w.ownsRow B e n v m xs) (hb : Below w.heap.size w w') : w'.ownsRow B e n v m xs := by
  refine ⟨h.1, ?_⟩
  rcases h.2 with q | ⟨g, cap, cur, e1, e2, e3, e4⟩
  · exact .inl q
  · exact .inr ⟨g, cap, cur, e1, e2, (hb.block g (lt_of_row e3)).trans e3, e4⟩
theorem row_keepR {w : World} {B : Nat} {e : TypeId} {n m : Nat} {v : Value} {xs : List Value} (h : w.ownsRow B e n v m xs) {k : Nat} {cs : Array Value} {t : TypeId} (hk : w.heap[k]? = some (.cells cs t (0, 0))) (ht : t ≠ e) (vs : Array Value) : (w.setRow k vs).ownsRow B e n v m xs := by
  refine ⟨h.1, ?_⟩
  rcases h.2 with q | ⟨g, cap, cur, e1, e2, e3, e4⟩
  · exact .inl q
  · refine .inr ⟨g, cap, cur, e1, e2, row_set e3 ?_, e4⟩
    intro q
    rw [q, hk] at e3
    simp at e3
    exact ht e3.2
theorem row_keepO {w w' : World} {B : Nat} {e : TypeId} {n m : Nat} {v : Value} {xs : List Value} (h : w.ownsRow B e n v m xs) {x : Value} {B2 : Nat} {e2 : TypeId} {n2 m2 : Nat} {ys : List Value} (hx : w.ownsRow B2 e2 n2 x m2 ys) (hne : e2 ≠ e) (ho : Only (fun k => x.ownBlock = some k) w w') : w'.ownsRow B e n v m xs := by
  refine ⟨h.1, ?_⟩
  rcases h.2 with q | ⟨g, cap, cur, e1, e3, e4, e5⟩
  · exact .inl q
  · refine .inr ⟨g, cap, cur, e1, e3, (ho.block g (lt_of_row e4) ?_).trans e4, e5⟩
    intro q
    rcases hx.2 with ⟨p, _⟩ | ⟨g2, cap2, cur2, p1, _, p3, _⟩
    · rw [p] at q; cases q
    · rw [p1] at q
      obtain rfl : g2 = g := by simpa [Value.ownBlock] using q
      rw [e4] at p3
      simp at p3
      exact hne p3.2.symm
theorem row_form {w : World} {B : Nat} {e : TypeId} {n m : Nat} {v : Value} {xs : List Value} (h : w.ownsRow B e n v m xs) (hm : 0 < m) : ∃ g cap cur, v = .slice (some ⟨g, 0, none⟩) m cap ∧ B ≤ g ∧ w.heap[g]? = some (.cells cur e (0, 0)) ∧ m * n ≤ cur.size ∧ cur.toList.take (m * n) = xs := by
  rcases h.2 with ⟨_, q⟩ | ⟨g, cap, cur, e1, e2, e3, e4, e5, e6, e7⟩
  · omega
  · exact ⟨g, cap, cur, e1, e2, e3, by rw [e6]; exact Nat.mul_le_mul_right n e4, e7⟩
/-- The book in memory. -/
structure BM (B : Nat) (w : World) (P : Nat) (cr us idl ab gr ge tk st en : Int) (l : List Tk) (sp : List Int) (ed : Bool) (u9 : Int) (v vl vs : Value) : Prop where
  row : w.heap[P]? = some (.cells (bkc cr us idl ab gr ge tk st en v vl vs ed u9) 64 (0, 0))
  hP : B ≤ P
  own : OwnS B w v [tRead]
  tok : TkO B w vl l
  spr : NmO B w vs sp
theorem BM.keep {B : Nat} {w w' : World} {P : Nat} {cr us idl ab gr ge tk st en : Int} {l : List Tk} {sp : List Int} {ed : Bool} {u9 : Int} {v vl vs : Value} (h : BM B w P cr us idl ab gr ge tk st en l sp ed u9 v vl vs) (hb : Below w.heap.size w w') : BM B w' P cr us idl ab gr ge tk st en l sp ed u9 v vl vs :=
  ⟨(hb.block P (lt_of_row h.row)).trans h.row, h.hP, h.own.below hb (by have := lt_of_row h.row; have := h.hP; omega), row_keepB h.tok hb, row_keepB h.spr hb⟩
end Go.Proofs.YtmjaobddgaglhaaGreatDoor
