import Derived.Test.YthlacailhfhjnaaGreatDoorZzbx
import Derived.Test.YthlacailhfhjnaaGreatDoorZzak
namespace Go.Proofs.YthlacailhfhjnaaGreatDoor
open Go.RowKit Go.Lib
/-- A book, all lists that stand in it, and where they stand: none below B. -/
structure Bok (B Z : Nat) (xs ys : List Value) (Ls : List (List Fl)) (fr wa : Value) (w : World) : Prop where
  bk : BkA Z xs ys fr wa w
  lx : xs.length = Ls.length
  ly : ys.length = Ls.length
  hz : B ≤ Z
  hf : ∀ k, fr.ownBlock = some k → B ≤ k
  ha : ∀ k, wa.ownBlock = some k → B ≤ k
  row : ∀ i, i < Ls.length → w.ownsRow 0 35 2 (xs.getD i undef) (Ls.getD i []).length (cellsF (Ls.getD i []))
  was : ∀ i, i < Ls.length → w.ownsRow 0 35 2 (ys.getD i undef) (Ls.getD i []).length (cellsF (Ls.getD i []))
  apart : ∀ i j, i < Ls.length → j < Ls.length → i ≠ j → ∀ g, (xs.getD i undef).ownBlock = some g → (xs.getD j undef).ownBlock ≠ some g
  above : ∀ i, i < Ls.length → ∀ g, (xs.getD i undef).ownBlock = some g → B ≤ g
  few : ∀ i, (Ls.getD i []).length ≤ 33
variable {B Z : Nat} {xs ys : List Value} {Ls : List (List Fl)} {fr wa : Value} {w w' : World}
theorem Bok.below (h : Bok B Z xs ys Ls fr wa w) (k : Below w.heap.size w w') : Bok B Z xs ys Ls fr wa w' :=
  ⟨h.bk.below k, h.lx, h.ly, h.hz, h.hf, h.ha, fun i hi => owns_same (h.row i hi) (fun g hg => by obtain ⟨cs, q⟩ := owns_lt (h.row i hi) g hg; exact k.block g (lt_of_row q)),
   fun i hi => owns_same (h.was i hi) (fun g hg => by obtain ⟨cs, q⟩ := owns_lt (h.was i hi) g hg; exact k.block g (lt_of_row q)), h.apart, h.above, h.few⟩
theorem Bok.start (w : World) (B : Nat) (hB : B ≤ w.heap.size) : Bok B w.heap.size [] [] [] (.slice none 0 0) (.slice none 0 0) (w.alloc (.cells (bks (.slice none 0 0) (.slice none 0 0) (.slice none 0 0) (.slice none 0 0)) 53)) :=
  ⟨⟨heap_alloc_new _ _, World.ownsRow_nil _ _ _ _, World.ownsRow_nil _ _ _ _, (fun k hk => by cases hk)⟩, rfl, rfl, hB, (fun k hk => by cases hk), (fun k hk => by cases hk), (fun i hi => by simp at hi), (fun i hi => by simp at hi), (fun i j hi => by simp at hi), (fun i hi => by simp at hi), (fun i => by simp)⟩
theorem getD_two {α : Type} (l : List α) (a b d : α) (i : Nat) : (l ++ [a] ++ [b]).getD i d = if i < l.length then l.getD i d else if i = l.length then a else if i = l.length + 1 then b else d := by
  rw [List.getD_eq_getElem?_getD]
  split
  · rename_i h
    rw [List.append_assoc, List.getElem?_append_left h, List.getD_eq_getElem?_getD]
  · split
    · rename_i h1 h2
      subst h2
      simp
    · split
      · rename_i h1 h2 h3
        subst h3
        simp
      · rename_i h1 h2 h3
        rw [List.getElem?_eq_none (by simp; omega)]
        rfl
/-- The blocks that parses may turn are none of the rows'. -/
theorem Bok.free (h : Bok B Z xs ys Ls fr wa w) {n m : Nat} {v : Value} {cs : List Value} (o : w.ownsRow 0 35 n v m cs) : ∀ k, v.ownBlock = some k → ¬ (k = Z ∨ fr.ownBlock = some k ∨ wa.ownBlock = some k) := by
  intro k hk
  obtain ⟨c0, q0⟩ := owns_lt o k hk
  rintro (q | q | q)
  · subst q
    have := h.bk.blk
    rw [q0] at this
    cases this
  · obtain ⟨c1, q1⟩ := owns_lt h.bk.f k q
    rw [q0] at q1
    cases q1
  · obtain ⟨c1, q1⟩ := owns_lt h.bk.a k q
    rw [q0] at q1
    cases q1
theorem Bok.step (h : Bok B Z xs ys Ls fr wa w) (hB : B ≤ w.heap.size) {fr' wa' v1 v2 v3 : Value} {g1 g2 g3 st : Nat} {b : Bs} {hs : List Fl} (h1 : BkA Z (xs ++ [v1] ++ [v2]) (ys ++ [v3] ++ [v3]) fr' wa' w') (O : Only (fun k => k = Z ∨ fr.ownBlock = some k ∨ wa.ownBlock = some k) w w')
    (A1 : Ans w.heap.size g1 v1 st b hs w') (A2 : Ans g1 g2 v2 st b hs w') (A3 : Ans g2 g3 v3 st b hs w') (n1 : ∀ k, fr'.ownBlock = some k → fr.ownBlock = some k ∨ g3 < k) (n2 : ∀ k, wa'.ownBlock = some k → wa.ownBlock = some k ∨ g3 < k) (hg1 : w.heap.size ≤ g1) (hg3 : w.heap.size ≤ g3) (hl : hs.length ≤ 33) :
    Bok B Z (xs ++ [v1] ++ [v2]) (ys ++ [v3] ++ [v3]) (Ls ++ [hs] ++ [hs]) fr' wa' w' := by
  have lx := h.lx
  have ly := h.ly
  have old : ∀ i, i < Ls.length → ∀ g, (xs.getD i undef).ownBlock = some g → g < w.heap.size := fun i hi g hg => by obtain ⟨cs, q⟩ := owns_lt (h.row i hi) g hg; exact lt_of_row q
  have pos : ∀ i, i < (Ls ++ [hs] ++ [hs]).length → i < Ls.length ∨ i = Ls.length ∨ i = Ls.length + 1 := fun i hi => by simp at hi; omega
  have ex : ∀ i, (xs ++ [v1] ++ [v2]).getD i undef = if i < Ls.length then xs.getD i undef else if i = Ls.length then v1 else if i = Ls.length + 1 then v2 else undef := fun i => by rw [getD_two, lx]
  have ey : ∀ i, (ys ++ [v3] ++ [v3]).getD i undef = if i < Ls.length then ys.getD i undef else if i = Ls.length then v3 else if i = Ls.length + 1 then v3 else undef := fun i => by rw [getD_two, ly]
  have el : ∀ i, (Ls ++ [hs] ++ [hs]).getD i [] = if i < Ls.length then Ls.getD i [] else if i = Ls.length then hs else if i = Ls.length + 1 then hs else [] := fun i => getD_two _ _ _ _ _
  have c1 : ∀ i, i = Ls.length → ¬ i < Ls.length := fun i q => by omega
  have c2 : ∀ i, i = Ls.length + 1 → ¬ i < Ls.length ∧ ¬ i = Ls.length := fun i q => by omega
  have xa : ∀ i, i < Ls.length → (xs ++ [v1] ++ [v2]).getD i undef = xs.getD i undef := fun i q => by rw [ex, if_pos q]
  have xb : ∀ i, i = Ls.length → (xs ++ [v1] ++ [v2]).getD i undef = v1 := fun i q => by rw [ex, if_neg (c1 i q), if_pos q]
  have xc : ∀ i, i = Ls.length + 1 → (xs ++ [v1] ++ [v2]).getD i undef = v2 := fun i q => by rw [ex, if_neg (c2 i q).1, if_neg (c2 i q).2, if_pos q]
  have la : ∀ i, i < Ls.length → (Ls ++ [hs] ++ [hs]).getD i [] = Ls.getD i [] := fun i q => by rw [el, if_pos q]
  have lb : ∀ i, i = Ls.length → (Ls ++ [hs] ++ [hs]).getD i [] = hs := fun i q => by rw [el, if_neg (c1 i q), if_pos q]
  have lc : ∀ i, i = Ls.length + 1 → (Ls ++ [hs] ++ [hs]).getD i [] = hs := fun i q => by rw [el, if_neg (c2 i q).1, if_neg (c2 i q).2, if_pos q]
  have ya : ∀ i, i < Ls.length → (ys ++ [v3] ++ [v3]).getD i undef = ys.getD i undef := fun i q => by rw [ey, if_pos q]
  have yb : ∀ i, i = Ls.length → (ys ++ [v3] ++ [v3]).getD i undef = v3 := fun i q => by rw [ey, if_neg (c1 i q), if_pos q]
  have yc : ∀ i, i = Ls.length + 1 → (ys ++ [v3] ++ [v3]).getD i undef = v3 := fun i q => by rw [ey, if_neg (c2 i q).1, if_neg (c2 i q).2, if_pos q]
  refine ⟨h1, by simp [lx], by simp [ly], h.hz, fun k hk => ?_, fun k hk => ?_, fun i hi => ?_, fun i hi => ?_, fun i j hi hj hij g hg => ?_, fun i hi g hg => ?_, fun i => ?_⟩
  · rcases n1 k hk with q | q
    · exact h.hf k q
    · omega
  · rcases n2 k hk with q | q
    · exact h.ha k q
    · omega
  · rcases pos i hi with q | q | q
    · rw [xa i q, la i q]
      exact owns_same (h.row i q) (fun g hg => O.block g (old i q g hg) (h.free (h.row i q) g hg))
    · rw [xb i q, lb i q]; exact A1.row
    · rw [xc i q, lc i q]; exact A2.row
  · rcases pos i hi with q | q | q
    · rw [ya i q, la i q]
      exact owns_same (h.was i q) (fun g hg => O.block g (by obtain ⟨cs, q⟩ := owns_lt (h.was i q) g hg; exact lt_of_row q) (h.free (h.was i q) g hg))
    · rw [yb i q, lb i q]; exact A3.row
    · rw [yc i q, lc i q]; exact A3.row
  · have b1 : ∀ g, v1.ownBlock = some g → w.heap.size ≤ g ∧ g < g1 := fun g hg => A1.new g hg
    have b2 : ∀ g, v2.ownBlock = some g → g1 ≤ g := fun g hg => (A2.new g hg).1
    rcases pos i hi with q | q | q <;> rcases pos j hj with r | r | r
    · rw [xa i q] at hg; rw [xa j r]; exact h.apart i j q r hij g hg
    · rw [xa i q] at hg; rw [xb j r]; intro e; have := old i q g hg; have := b1 g e; omega
    · rw [xa i q] at hg; rw [xc j r]; intro e; have := old i q g hg; have := b2 g e; omega
    · rw [xb i q] at hg; rw [xa j r]; intro e; have := old j r g e; have := b1 g hg; omega
    · omega
    · rw [xb i q] at hg; rw [xc j r]; intro e; have := b1 g hg; have := b2 g e; omega
    · rw [xc i q] at hg; rw [xa j r]; intro e; have := old j r g e; have := b2 g hg; omega
    · rw [xc i q] at hg; rw [xb j r]; intro e; have := b1 g e; have := b2 g hg; omega
    · omega
  · rcases pos i hi with q | q | q
    · rw [xa i q] at hg; exact h.above i q g hg
    · rw [xb i q] at hg; have := (A1.new g hg).1; omega
    · rw [xc i q] at hg; have := (A2.new g hg).1; omega
  · rw [el]
    repeat' split
    · exact h.few i
    · exact hl
    · exact hl
    · simp
/-- What parses does to a book. -/
theorem bokParses {B0 : Nat} (s : Bs) (hE : Env B0 w) (h : Bok B Z xs ys Ls fr wa w) (hB : B ≤ w.heap.size) (hx : Ls.length ≤ 1000) (hs : s.length ≤ 1000000000000) :
    Calls Tryz.prog 29 #[.pointer (some ⟨Z, 0, none⟩), S s] w fun e w' => e = .returned (.bool true) ∧ ∃ xs' ys' Ls' fr' wa', Ls'.length = Ls.length + 2 ∧ Bok B Z xs' ys' Ls' fr' wa' w' ∧ Only (fun k => k = Z ∨ fr.ownBlock = some k ∨ wa.ownBlock = some k) w w' := by
  refine (parses_any Z xs ys fr wa s w hE h.bk (by rw [h.lx]; exact hx) (by rw [h.ly]; exact hx) hs).mono ?_
  rintro e w1 ⟨rfl, fr', wa', g1, g2, g3, v1, v2, v3, h1, O, A1, A2, A3, n1, n2, l1, l2, l3⟩
  exact ⟨rfl, _, _, _, fr', wa', by simp, h.step hB h1 O A1 A2 A3 n1 n2 l1 (by omega) (pa_hs p0 s okP0), O⟩
/-- All that still asks of a book. -/
theorem bokStill (h : Bok B Z xs ys Ls fr wa w) (h0 : 0 < Ls.length) (h1 : Ls.length ≤ 1000) :
    Calls Tryz.prog 27 #[.pointer (some ⟨Z, 0, none⟩)] w fun e w' => e = .returned (.bool true) ∧ Below B w w' := by
  have hbk := h.bk
  have hf := hbk.f
  have ha := hbk.a
  rw [h.lx] at hf
  rw [h.ly] at ha
  obtain ⟨p, c, e⟩ := owns_form hf
  obtain ⟨p2, c2, e2⟩ := owns_form ha
  have hx := h.lx
  have hy := h.ly
  subst e e2
  rcases hf.2 with ⟨_, q⟩ | ⟨G, cap, cur, q1, _, q2, _⟩
  · omega
  rcases ha.2 with ⟨_, q⟩ | ⟨H, cap2, cur2, r1, _, r2, _⟩
  · omega
  cases q1
  cases r1
  have hadd : ∀ g i, (⟨g, 0, none⟩ : Addr).add i = ⟨g, i, none⟩ := fun g i => by unfold Addr.add; split <;> simp_all
  refine still_any B Z G Ls.length c H c2 (fun i => xs.getD i undef) (fun i => Ls.getD i []) w hbk.blk h.hz ⟨⟨cur, q2⟩, h.hf G rfl, fun i hi => ?_, fun i hi => h.row i hi, h.apart, h.above⟩ (lt_of_row r2) (fun i hi => ?_) h1 (fun i _ => by have := h.few i; omega)
  · have := World.ownsRow.cells hf (g := G) rfl i (xs.getD i undef) (by simp [hx, hi])
    rwa [hadd] at this
  · have := World.ownsRow.cells ha (g := H) rfl i (ys.getD i undef) (by simp [hy, hi])
    rw [hadd] at this
    have ow := h.was i hi
    obtain ⟨p3, c3, e3⟩ := owns_form ow
    rw [e3] at this ow
    exact ⟨p3, c3, this, owns_fl ow⟩
end Go.Proofs.YthlacailhfhjnaaGreatDoor
namespace Go.Proofs.YthlacailhfhjnaaGreatDoor
open Go.RowKit Go.Lib
def rwa5T : List (Op × Option Tmp × Option (Nat × Bool)) := [
  (.move (.tmp 0), some 20, none),
  (.call { callee := .builtin .len, args := #[(.tmp 20)], argTypes := #[9] }, some 21, none),
  (.move (.tmp 0), some 22, none),
  (.call { callee := .builtin .len, args := #[(.tmp 22)], argTypes := #[9] }, some 23, none),
  (.call { callee := .value (.func 8), args := #[(.tmp 21), (.tmp 23)], argTypes := #[3, 3] }, some 24, none),
  (.load 26 (.tmp 5), some 25, none),
  (.call { callee := .value (.func 10), args := #[(.tmp 25)], argTypes := #[26] }, some 26, none),
  (.load 26 (.tmp 5), some 27, none),
  (.call { callee := .value (.func 10), args := #[(.tmp 27)], argTypes := #[26] }, some 28, none),
  (.call { callee := .value (.func 8), args := #[(.tmp 26), (.tmp 28)], argTypes := #[3, 3] }, some 29, none),
  (.call { callee := .value (.func 8), args := #[(.tmp 24), (.tmp 29)], argTypes := #[3, 3] }, some 30, none),
  (.binOp .gtr 3 (.tmp 30) (.const (.int .i64 2147483647)) 3, some 31, none)]
def rwa5D : List (Nat × Nat) := [(1, 0), (3, 2), (4, 1), (4, 3), (6, 5), (8, 7), (9, 6), (9, 8), (10, 4), (10, 9), (11, 10)]
set_option maxHeartbeats 2000000 in
theorem rwa5 {ops : Array Oper} {id : Nat} {Q : Exit → Act → World → Prop} (x n1 k1 : Nat) (p1 : Option Addr) (st T A D K : Int) (b1 ee : Bs) (htab : ops.toList.map (fun o => (o.op, o.dst, o.guard)) = rwa5T) (hdep : deplB rwa5D ops = true) (hac : acB ops = true)
    (a0 : Act) (w : World) (hsz : 32 ≤ a0.tmps.size) (o0 : a0.tmps[0]? = some (S ee)) (o5 : a0.tmps[5]? = some (.pointer (some ⟨x, 0, none⟩)))
    (Wd : (Nat → Bool) → World → Prop) (h0 : Wd (fun _ => false) w.drew) (hpure : ∀ i, i ∉ ([4, 6, 8, 9, 10] : List Nat) → ∀ L W, Wd L W → Wd (upd L i) W)
    (c4 : ∀ L W, Wd L W → L 4 = false → Calls Tryz.prog 8 #[.int .i64 (ee.length : Int), .int .i64 (ee.length : Int)] W fun e w' => e = .returned (.int .i64 D) ∧ Wd (upd L 4) w')
    (l5 : ∀ L W, Wd L W → W.cell? ⟨x, 0, none⟩ = some (.int .i64 st) ∧ W.cell? ⟨x, 1, none⟩ = some (.slice p1 n1 k1) ∧ W.cell? ⟨x, 2, none⟩ = some (S b1))
    (c6 : ∀ L W, Wd L W → L 6 = false → Calls Tryz.prog 10 #[.agg #[.int .i64 st, .slice p1 n1 k1, S b1]] W fun e w' => e = .returned (.int .i64 T) ∧ Wd (upd L 6) w')
    (l7 : ∀ L W, Wd L W → W.cell? ⟨x, 0, none⟩ = some (.int .i64 st) ∧ W.cell? ⟨x, 1, none⟩ = some (.slice p1 n1 k1) ∧ W.cell? ⟨x, 2, none⟩ = some (S b1))
    (c8 : ∀ L W, Wd L W → L 8 = false → Calls Tryz.prog 10 #[.agg #[.int .i64 st, .slice p1 n1 k1, S b1]] W fun e w' => e = .returned (.int .i64 T) ∧ Wd (upd L 8) w')
    (c9 : ∀ L W, Wd L W → L 9 = false → Calls Tryz.prog 8 #[.int .i64 T, .int .i64 T] W fun e w' => e = .returned (.int .i64 A) ∧ Wd (upd L 9) w')
    (c10 : ∀ L W, Wd L W → L 10 = false → Calls Tryz.prog 8 #[.int .i64 D, .int .i64 A] W fun e w' => e = .returned (.int .i64 K) ∧ Wd (upd L 10) w')
    (hend : ∀ L W, (∀ i, i < 12 → L i = true) → Wd L W → Q .normal ((((((((((((a0.put (some 20) (S ee)).put (some 21) (.int .i64 (ee.length : Int))).put (some 22) (S ee)).put (some 23) (.int .i64 (ee.length : Int))).put (some 24) (.int .i64 D)).put (some 25) (.agg #[.int .i64 st, .slice p1 n1 k1, S b1])).put (some 26) (.int .i64 T)).put (some 27) (.agg #[.int .i64 st, .slice p1 n1 k1, S b1])).put (some 28) (.int .i64 T)).put (some 29) (.int .i64 A)).put (some 30) (.int .i64 K)).put (some 31) (.bool (decide ((2147483647 : Int) < K)))) W) : (Code.region id ops true).wp Tryz.prog Q a0 w := by
  let val : Nat → Value := fun i => match i with
    | 0 => (S ee)
    | 1 => (.int .i64 (ee.length : Int))
    | 2 => (S ee)
    | 3 => (.int .i64 (ee.length : Int))
    | 4 => (.int .i64 D)
    | 5 => (.agg #[.int .i64 st, .slice p1 n1 k1, S b1])
    | 6 => (.int .i64 T)
    | 7 => (.agg #[.int .i64 st, .slice p1 n1 k1, S b1])
    | 8 => (.int .i64 T)
    | 9 => (.int .i64 A)
    | 10 => (.int .i64 K)
    | 11 => (.bool (decide ((2147483647 : Int) < K)))
    | _ => undef
  have hosz : ops.size = 12 := by
    have := congrArg List.length htab
    simpa [rwa5T] using this
  have hds : ∀ i s, (rwa5T[i]?).bind (·.2.1) = some s → dstOf ops i = some s := fun i s hi => by rw [tab_dst htab, hi]
  have hdisB : disL rwa5T = true := by rfl
  have hdis := disL_of htab hdisB
  have hold : ∀ s, rwa5T.all (fun x => !(x.2.1 == some s)) = true → (List.range ops.size).all (fun j => !(dstOf ops j == some s)) = true := fun s h => holdL htab s h
  refine region_detL val Wd (hac_of hac) hdis h0 ?_ ?_
  rotate_left
  · intro L W hall hW
    have := hend L W (by rw [← hosz]; exact hall) hW
    have e : frm ops a0 val (fun _ => true) ops.size = ((((((((((((a0.put (some 20) (S ee)).put (some 21) (.int .i64 (ee.length : Int))).put (some 22) (S ee)).put (some 23) (.int .i64 (ee.length : Int))).put (some 24) (.int .i64 D)).put (some 25) (.agg #[.int .i64 st, .slice p1 n1 k1, S b1])).put (some 26) (.int .i64 T)).put (some 27) (.agg #[.int .i64 st, .slice p1 n1 k1, S b1])).put (some 28) (.int .i64 T)).put (some 29) (.int .i64 A)).put (some 30) (.int .i64 K)).put (some 31) (.bool (decide ((2147483647 : Int) < K)))) := by
      rw [hosz]
      simp only [frm, if_true]
      rw [tab_dst htab 0, tab_dst htab 1, tab_dst htab 2, tab_dst htab 3, tab_dst htab 4, tab_dst htab 5, tab_dst htab 6, tab_dst htab 7, tab_dst htab 8, tab_dst htab 9, tab_dst htab 10, tab_dst htab 11]
      rfl
    rw [e]
    exact this
  intro i o ho L a w' hL hd ha hW
  have hi : i < 12 := by rw [← hosz]; exact (Array.getElem?_eq_some_iff.1 ho).1
  match i, ho, hL, hi with
  | 0, ho, hL, _ =>
    obtain ⟨hop, hdst, hgd⟩ := tab_at htab ho (show rwa5T[0]? = _ from rfl)
    simp only at hop hgd
    have h0 := frm_old ha 0 _ (hold 0 rfl) o0
    exact doesL_run ho (wanted_none hgd) (hpure 0 (by decide) L w' hW) (by rw [run_move _ _ _ hop]; exact congrArg (fun v => Result.ok (Next.value v) w') (eval_of h0))
  | 1, ho, hL, _ =>
    obtain ⟨hop, hdst, hgd⟩ := tab_at htab ho (show rwa5T[1]? = _ from rfl)
    simp only at hop hgd
    have h0 := frm_at hdis ha 0 20 (hds 0 20 rfl) (by omega) (depl_of hdep 1 0 (by decide) ho hd)
    exact doesL_run ho (wanted_none hgd) (hpure 1 (by decide) L w' hW) (run_len _ _ _ hop _ (eval_of h0) _)
  | 2, ho, hL, _ =>
    obtain ⟨hop, hdst, hgd⟩ := tab_at htab ho (show rwa5T[2]? = _ from rfl)
    simp only at hop hgd
    have h0 := frm_old ha 0 _ (hold 0 rfl) o0
    exact doesL_run ho (wanted_none hgd) (hpure 2 (by decide) L w' hW) (by rw [run_move _ _ _ hop]; exact congrArg (fun v => Result.ok (Next.value v) w') (eval_of h0))
  | 3, ho, hL, _ =>
    obtain ⟨hop, hdst, hgd⟩ := tab_at htab ho (show rwa5T[3]? = _ from rfl)
    simp only at hop hgd
    have h0 := frm_at hdis ha 2 22 (hds 2 22 rfl) (by omega) (depl_of hdep 3 2 (by decide) ho hd)
    exact doesL_run ho (wanted_none hgd) (hpure 3 (by decide) L w' hW) (run_len _ _ _ hop _ (eval_of h0) _)
  | 4, ho, hL, _ =>
    obtain ⟨hop, hdst, hgd⟩ := tab_at htab ho (show rwa5T[4]? = _ from rfl)
    simp only at hop hgd
    have h0 := frm_at hdis ha 1 21 (hds 1 21 rfl) (by omega) (depl_of hdep 4 1 (by decide) ho hd)
    have h1 := frm_at hdis ha 3 23 (hds 3 23 rfl) (by omega) (depl_of hdep 4 3 (by decide) ho hd)
    refine doesL_call ho (wanted_none hgd) 8 #[.int .i64 (ee.length : Int), .int .i64 (ee.length : Int)] ?_ (c4 L w' hW hL)
    rw [run_calls Tryz.func8 (by kernel_rfl) rfl _ _ _ _ hop rfl]
    simp only [List.map_toArray, List.map_cons, List.map_nil, eval_of h0, eval_of h1]
    all_goals rfl
  | 5, ho, hL, _ =>
    obtain ⟨hop, hdst, hgd⟩ := tab_at htab ho (show rwa5T[5]? = _ from rfl)
    simp only at hop hgd
    have h0 := frm_old ha 5 _ (hold 5 rfl) o5
    exact doesL_run ho (wanted_none hgd) (hpure 5 (by decide) L w' hW) (run_ld26 _ _ _ hop _ _ _ _ (eval_of h0) _ (l5 L w' hW).1 (l5 L w' hW).2.1 (l5 L w' hW).2.2)
  | 6, ho, hL, _ =>
    obtain ⟨hop, hdst, hgd⟩ := tab_at htab ho (show rwa5T[6]? = _ from rfl)
    simp only at hop hgd
    have h0 := frm_at hdis ha 5 25 (hds 5 25 rfl) (by omega) (depl_of hdep 6 5 (by decide) ho hd)
    refine doesL_call ho (wanted_none hgd) 10 #[.agg #[.int .i64 st, .slice p1 n1 k1, S b1]] ?_ (c6 L w' hW hL)
    rw [run_calls Tryz.func10 (by kernel_rfl) rfl _ _ _ _ hop rfl]
    simp only [List.map_toArray, List.map_cons, List.map_nil, eval_of h0]
    all_goals rfl
  | 7, ho, hL, _ =>
    obtain ⟨hop, hdst, hgd⟩ := tab_at htab ho (show rwa5T[7]? = _ from rfl)
    simp only at hop hgd
    have h0 := frm_old ha 5 _ (hold 5 rfl) o5
    exact doesL_run ho (wanted_none hgd) (hpure 7 (by decide) L w' hW) (run_ld26 _ _ _ hop _ _ _ _ (eval_of h0) _ (l7 L w' hW).1 (l7 L w' hW).2.1 (l7 L w' hW).2.2)
  | 8, ho, hL, _ =>
    obtain ⟨hop, hdst, hgd⟩ := tab_at htab ho (show rwa5T[8]? = _ from rfl)
    simp only at hop hgd
    have h0 := frm_at hdis ha 7 27 (hds 7 27 rfl) (by omega) (depl_of hdep 8 7 (by decide) ho hd)
    refine doesL_call ho (wanted_none hgd) 10 #[.agg #[.int .i64 st, .slice p1 n1 k1, S b1]] ?_ (c8 L w' hW hL)
    rw [run_calls Tryz.func10 (by kernel_rfl) rfl _ _ _ _ hop rfl]
    simp only [List.map_toArray, List.map_cons, List.map_nil, eval_of h0]
    all_goals rfl
  | 9, ho, hL, _ =>
    obtain ⟨hop, hdst, hgd⟩ := tab_at htab ho (show rwa5T[9]? = _ from rfl)
    simp only at hop hgd
    have h0 := frm_at hdis ha 6 26 (hds 6 26 rfl) (by omega) (depl_of hdep 9 6 (by decide) ho hd)
    have h1 := frm_at hdis ha 8 28 (hds 8 28 rfl) (by omega) (depl_of hdep 9 8 (by decide) ho hd)
    refine doesL_call ho (wanted_none hgd) 8 #[.int .i64 T, .int .i64 T] ?_ (c9 L w' hW hL)
    rw [run_calls Tryz.func8 (by kernel_rfl) rfl _ _ _ _ hop rfl]
    simp only [List.map_toArray, List.map_cons, List.map_nil, eval_of h0, eval_of h1]
    all_goals rfl
  | 10, ho, hL, _ =>
    obtain ⟨hop, hdst, hgd⟩ := tab_at htab ho (show rwa5T[10]? = _ from rfl)
    simp only at hop hgd
    have h0 := frm_at hdis ha 4 24 (hds 4 24 rfl) (by omega) (depl_of hdep 10 4 (by decide) ho hd)
    have h1 := frm_at hdis ha 9 29 (hds 9 29 rfl) (by omega) (depl_of hdep 10 9 (by decide) ho hd)
    refine doesL_call ho (wanted_none hgd) 8 #[.int .i64 D, .int .i64 A] ?_ (c10 L w' hW hL)
    rw [run_calls Tryz.func8 (by kernel_rfl) rfl _ _ _ _ hop rfl]
    simp only [List.map_toArray, List.map_cons, List.map_nil, eval_of h0, eval_of h1]
    all_goals rfl
  | 11, ho, hL, _ =>
    obtain ⟨hop, hdst, hgd⟩ := tab_at htab ho (show rwa5T[11]? = _ from rfl)
    simp only at hop hgd
    have h0 := frm_at hdis ha 10 30 (hds 10 30 rfl) (by omega) (depl_of hdep 11 10 (by decide) ho hd)
    exact doesL_run ho (wanted_none hgd) (hpure 11 (by decide) L w' hW) (run_gtr _ _ _ _ hop _ _ (eval_of h0) rfl _)
  | (i + 12), ho, hL, hi => exact absurd hi (by omega)
end Go.Proofs.YthlacailhfhjnaaGreatDoor
