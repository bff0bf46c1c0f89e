import Derived.Test.YthlacailhfhjnaaGreatDoorZzbh
import Derived.Test.YthlacailhfhjnaaGreatDoorZzbu
namespace Go.Proofs.YthlacailhfhjnaaGreatDoor
open Go.RowKit Go.Lib
/-- What ParseAnswer hands back, its error or not: status, headers, body, rest, error. -/
def prs5 : Except Nat (As × Bs) → Nat × List Fl × Bs × Bs × Nat
  | .error n => (0, [], [], [], n)
  | .ok (a, rest) => (a.s, a.hs, a.b, rest, 0)
theorem PaR.form {r : Except Nat (As × Bs)} {e : Ending} {w w' : World} (h : PaR r e w w') : ∃ p c, e = .returned (.tuple #[.agg #[.int .i64 ((prs5 r).1 : Nat), .slice p (prs5 r).2.1.length c, S (prs5 r).2.2.1], S (prs5 r).2.2.2.1, .int .i64 ((prs5 r).2.2.2.2 : Nat)]) ∧ w'.ownsRow 0 35 2 (.slice p (prs5 r).2.1.length c) (prs5 r).2.1.length (cellsF (prs5 r).2.1) ∧ ∀ k, (Value.slice p (prs5 r).2.1.length c).ownBlock = some k → w.heap.size ≤ k := by
  unfold PaR at h
  cases r with
  | error n =>
    simp only at h
    subst h
    exact ⟨none, 0, rfl, World.ownsRow_nil _ _ _ _, fun k hk => by cases hk⟩
  | ok x =>
    obtain ⟨a, rest⟩ := x
    simp only at h
    obtain ⟨hv, rfl, o, hn⟩ := h
    obtain ⟨p, c, rfl⟩ := owns_form o
    exact ⟨p, c, rfl, o, hn⟩
/-- An answer in its box g, its headers in a row of their own, not below lo. -/
structure Ans (lo g : Nat) (v : Value) (st : Nat) (b : Bs) (hs : List Fl) (w : World) : Prop where
  blk : w.heap[g]? = some (.cells #[.int .i64 (st : Int), v, S b] 26 (0, 0))
  row : w.ownsRow 0 35 2 v hs.length (cellsF hs)
  new : ∀ k, v.ownBlock = some k → lo ≤ k ∧ k < g
theorem Ans.lt {lo g : Nat} {v : Value} {st : Nat} {b : Bs} {hs : List Fl} {w : World} (h : Ans lo g v st b hs w) : ∀ k, v.ownBlock = some k → k < w.heap.size := fun k hk => by
  obtain ⟨cs, q⟩ := owns_lt h.row k hk; exact lt_of_row q
theorem Ans.below {lo g : Nat} {v : Value} {st : Nat} {b : Bs} {hs : List Fl} {w w' : World} (h : Ans lo g v st b hs w) (k : Below w.heap.size w w') : Ans lo g v st b hs w' :=
  ⟨(k.block _ (lt_of_row h.blk)).trans h.blk, owns_same h.row (fun i hi => k.block i (h.lt i hi)), h.new⟩
theorem Ans.only {lo g : Nat} {v : Value} {st : Nat} {b : Bs} {hs : List Fl} {w w' : World} {P : Nat → Prop} (h : Ans lo g v st b hs w) (k : Only P w w') (hg : ¬ P g) (hv : ∀ i, v.ownBlock = some i → ¬ P i) : Ans lo g v st b hs w' :=
  ⟨(k.block _ (lt_of_row h.blk) hg).trans h.blk, owns_same h.row (fun i hi => k.block i (h.lt i hi) (hv i hi)), h.new⟩
theorem Ans.mono {lo lo' g : Nat} {v : Value} {st : Nat} {b : Bs} {hs : List Fl} {w : World} (h : Ans lo g v st b hs w) (hl : lo' ≤ lo) : Ans lo' g v st b hs w := ⟨h.blk, h.row, fun k hk => ⟨Nat.le_trans hl (h.new k hk).1, (h.new k hk).2⟩⟩
theorem Ans.make {w w' : World} {v : Value} {st : Nat} {b : Bs} {hs : List Fl} (o : w'.ownsRow 0 35 2 v hs.length (cellsF hs)) (hn : ∀ k, v.ownBlock = some k → w.heap.size ≤ k) :
    Ans w.heap.size w'.heap.size v st b hs (w'.alloc (.cells #[.int .i64 (st : Int), v, S b] 26)) :=
  ⟨heap_alloc_new _ _, owns_alloc o _, fun k hk => ⟨hn k hk, by obtain ⟨cs, q⟩ := owns_lt o k hk; exact lt_of_row q⟩⟩
/-- What an answer that was parsed comes out as. -/
def Prd (st : Nat) (hs : List Fl) (b rest : Bs) (no : Nat) (w : World) (e : Ending) (w' : World) : Prop :=
  (∃ p c, e = .returned (.tuple #[.agg #[.int .i64 (st : Int), .slice p hs.length c, S b], S rest, .int .i64 (no : Int)]) ∧ w'.ownsRow 0 35 2 (.slice p hs.length c) hs.length (cellsF hs) ∧ ∀ k, (Value.slice p hs.length c).ownBlock = some k → w.heap.size ≤ k) ∧ Below w.heap.size w w'
theorem owns_fl {w : World} {p : Option Addr} {c : Nat} {hs : List Fl} (o : w.ownsRow 0 35 2 (.slice p hs.length c) hs.length (cellsF hs)) : Fls w p hs.length hs := owns_fls o rfl
set_option maxHeartbeats 16000000 in
set_option maxRecDepth 8000 in
theorem parses_gen {B : Nat} (Z : Nat) (xs ys : List Value) (fr wa : Value) (s : Bs) (st : Nat) (hs : List Fl) (b rest : Bs) (no : Nat) (w : World) (hE : Env B w) (h : BkA Z xs ys fr wa w) (hx : xs.length ≤ 1000) (hy : ys.length ≤ 1000) (hl : hs.length ≤ 1000000000)
    (hA : ∀ W, Env B W → Calls Tryz.prog 33 #[S s] W (Prd st hs b rest no W)) (hR : ∀ W, Calls Tryz.prog 61 #[S s] W (Prd st hs b rest no W)) :
    Calls Tryz.prog 29 #[.pointer (some ⟨Z, 0, none⟩), S s] w fun e w' => e = .returned (.bool true) ∧ ∃ fr' wa' g1 g2 g3 v1 v2 v3, 
      BkA Z (xs ++ [v1] ++ [v2]) (ys ++ [v3] ++ [v3]) fr' wa' w' ∧ Only (fun k => k = Z ∨ fr.ownBlock = some k ∨ wa.ownBlock = some k) w w' ∧ 
      Ans w.heap.size g1 v1 st b hs w' ∧ Ans g1 g2 v2 st b hs w' ∧ Ans g2 g3 v3 st b hs w' ∧
      (∀ k, fr'.ownBlock = some k → fr.ownBlock = some k ∨ g3 < k) ∧ (∀ k, wa'.ownBlock = some k → wa.ownBlock = some k ∨ g3 < k) ∧ w.heap.size ≤ g1 ∧ g1 ≤ g2 ∧ g2 ≤ g3 := by
  have H0 := hide (hA w hE)
  have HA := hide hA
  have HR := hide hR
  have HK := hide (And.intro hE h)
  clear hE h hA hR
  go_enter Tryz.func29, Tryz.ntmps29
  go_wp2_with fail
  refine (unhide H0).mono ?_
  rintro e w1 ⟨⟨p1, c1, rfl, o1, n1⟩, b1⟩
  obtain ⟨hE, h⟩ := unhide HK
  have ba := (Below.refl w1.heap.size w1).alloc (Nat.le_refl _) (.cells #[.int .i64 (st : Int), .slice p1 hs.length c1, S b] 26)
  have b2 := b1.trans (ba.mono b1.size)
  have A1 := Ans.make (w := w) (st := st) (b := b) o1 n1
  have HK1 := hide (And.intro (hE.below (b2.mono hE.le)) (And.intro (h.below b2) (And.intro b2 A1)))
  have HS1 := hide (show w.heap.size ≤ w1.heap.size from b1.size)
  clear ba b2 A1 hE h b1 o1 n1 H0
  go_wp2_with fail
  generalize w1.alloc (.cells #[.int .i64 (st : Int), .slice p1 hs.length c1, S b] 26) = W1 at *
  refine (unhide HA W1 (unhide HK1).1).mono ?_
  rintro e w2 ⟨⟨p2, c2, rfl, o1, n1⟩, b1⟩
  obtain ⟨hE, h, bw, A1⟩ := unhide HK1
  have ba := (Below.refl w2.heap.size w2).alloc (Nat.le_refl _) (.cells #[.int .i64 (st : Int), .slice p2 hs.length c2, S b] 26)
  have b2 := b1.trans (ba.mono b1.size)
  have A2 := Ans.make (w := W1) (st := st) (b := b) o1 n1
  have HK2 := hide (And.intro (h.below b2) (And.intro (bw.trans (b2.mono bw.size)) (And.intro (A1.below b2) (And.intro (A2.mono (Nat.le_of_lt (lt_of_row A1.blk))) (Nat.lt_of_lt_of_le (lt_of_row A1.blk) b1.size)))))
  clear ba b2 A1 A2 hE h b1 o1 n1 bw HK1
  go_wp2_with fail
  generalize w2.alloc (.cells #[.int .i64 (st : Int), .slice p2 hs.length c2, S b] 26) = W2 at *
  refine (unhide HR W2).mono ?_
  rintro e w3 ⟨⟨p3, c3, rfl, o1, n1⟩, b1⟩
  obtain ⟨h, bw, A1, A2, l12⟩ := unhide HK2
  have ba := (Below.refl w3.heap.size w3).alloc (Nat.le_refl _) (.cells #[.int .i64 (st : Int), .slice p3 hs.length c3, S b] 26)
  have b2 := b1.trans (ba.mono b1.size)
  have A3 := Ans.make (w := W2) (st := st) (b := b) o1 n1
  have HK3 := hide (And.intro (h.below b2) (And.intro (bw.trans (b2.mono bw.size)) (And.intro (A1.below b2) (And.intro (A2.below b2) (And.intro (A3.mono (Nat.le_of_lt (lt_of_row A2.blk))) (And.intro l12 (Nat.lt_of_lt_of_le (lt_of_row A2.blk) b1.size)))))))
  clear ba b2 A1 A2 A3 h b1 o1 n1 bw HK2 l12
  obtain ⟨W3, hW3⟩ : ∃ W3, W3 = w3.alloc (.cells #[.int .i64 (st : Int), .slice p3 hs.length c3, S b] 26) := ⟨_, rfl⟩
  rw [← hW3] at HK3
  have d0 : W3.cell? ⟨w1.heap.size, 0, none⟩ = some (.int .i64 (st : Int)) := cell_of_row W3 _ 0 _ 26 (0, 0) (unhide HK3).2.2.1.blk
  have d1 : W3.cell? ⟨w1.heap.size, 1, none⟩ = some (.slice p1 hs.length c1) := cell_of_row W3 _ 1 _ 26 (0, 0) (unhide HK3).2.2.1.blk
  have d2 : W3.cell? ⟨w1.heap.size, 2, none⟩ = some (S b) := cell_of_row W3 _ 2 _ 26 (0, 0) (unhide HK3).2.2.1.blk
  rw [hW3] at d0 d1 d2
  go_wp2_with fail
  change Calls Tryz.prog 34 #[.agg #[.int .i64 (st : Int), .slice p1 hs.length c1, S b], .agg #[.int .i64 (st : Int), .slice p3 hs.length c3, S b]] (w3.alloc (.cells #[.int .i64 (st : Int), .slice p3 hs.length c3, S b] 26)) _
  rw [← hW3]
  clear hW3 d0 d1 d2
  refine (sameAnswer_eq p1 p3 hs.length c1 c3 hs st b W3 (owns_fl (unhide HK3).2.2.1.row) (owns_fl (unhide HK3).2.2.2.2.1.row) (by omega)).mono ?_
  rintro e w4 ⟨rfl, b4⟩
  obtain ⟨h, bw, A1, A2, A3, l12, l23⟩ := unhide HK3
  have HK4 := hide (And.intro (h.below b4) (And.intro (bw.trans (b4.mono bw.size)) (And.intro (A1.below b4) (And.intro (A2.below b4) (And.intro (A3.below b4) (And.intro l12 l23))))))
  clear h bw A1 A2 A3 l12 l23 b4 HK3
  have d0 : w4.cell? ⟨w2.heap.size, 0, none⟩ = some (.int .i64 (st : Int)) := cell_of_row w4 _ 0 _ 26 (0, 0) (unhide HK4).2.2.2.1.blk
  have d1 : w4.cell? ⟨w2.heap.size, 1, none⟩ = some (.slice p2 hs.length c2) := cell_of_row w4 _ 1 _ 26 (0, 0) (unhide HK4).2.2.2.1.blk
  have d2 : w4.cell? ⟨w2.heap.size, 2, none⟩ = some (S b) := cell_of_row w4 _ 2 _ 26 (0, 0) (unhide HK4).2.2.2.1.blk
  have e0 : w4.cell? ⟨w3.heap.size, 0, none⟩ = some (.int .i64 (st : Int)) := cell_of_row w4 _ 0 _ 26 (0, 0) (unhide HK4).2.2.2.2.1.blk
  have e1 : w4.cell? ⟨w3.heap.size, 1, none⟩ = some (.slice p3 hs.length c3) := cell_of_row w4 _ 1 _ 26 (0, 0) (unhide HK4).2.2.2.2.1.blk
  have e2 : w4.cell? ⟨w3.heap.size, 2, none⟩ = some (S b) := cell_of_row w4 _ 2 _ 26 (0, 0) (unhide HK4).2.2.2.2.1.blk
  go_wp2_with fail
  clear d0 d1 d2 e0 e1 e2
  refine (sameAnswer_eq p2 p3 hs.length c2 c3 hs st b w4 (owns_fl (unhide HK4).2.2.2.1.row) (owns_fl (unhide HK4).2.2.2.2.1.row) (by omega)).mono ?_
  rintro e w5 ⟨rfl, b4⟩
  obtain ⟨h, bw, A1, A2, A3, l12, l23⟩ := unhide HK4
  have HK5 := hide (And.intro (h.below b4) (And.intro (bw.trans (b4.mono bw.size)) (And.intro (A1.below b4) (And.intro (A2.below b4) (And.intro (A3.below b4) (And.intro l12 l23))))))
  clear h bw A1 A2 A3 l12 l23 b4 HK4
  have d1 : w5.cell? ⟨w1.heap.size, 1, none⟩ = some (.slice p1 hs.length c1) := cell_of_row w5 _ 1 _ 26 (0, 0) (unhide HK5).2.2.1.blk
  have e1 : w5.cell? ⟨w3.heap.size, 1, none⟩ = some (.slice p3 hs.length c3) := cell_of_row w5 _ 1 _ 26 (0, 0) (unhide HK5).2.2.2.2.1.blk
  go_wp2_with fail
  clear d1 e1
  refine (bookFields_any Z xs ys fr wa p1 p3 hs.length c1 hs.length c3 w5 (unhide HK5).1 (by omega) (by omega)).mono ?_
  rintro e w6 ⟨rfl, fr1, wa1, h6, O6, n6, m6⟩
  obtain ⟨-, hb0⟩ := unhide HK
  have low : ∀ k, (k = Z ∨ fr.ownBlock = some k ∨ wa.ownBlock = some k) → k < w.heap.size := by
    rintro k (rfl | q | q)
    · exact lt_of_row hb0.blk
    · obtain ⟨cs, q⟩ := owns_lt hb0.f k q; exact lt_of_row q
    · obtain ⟨cs, q⟩ := owns_lt hb0.a k q; exact lt_of_row q
  have low1 : ∀ k, (k = Z ∨ fr1.ownBlock = some k ∨ wa1.ownBlock = some k) → (k = Z ∨ fr.ownBlock = some k ∨ wa.ownBlock = some k) ∨ w5.heap.size ≤ k := by
    rintro k (q | q | q)
    · exact .inl (.inl q)
    · exact (n6 k q).imp (fun q => .inr (.inl q)) id
    · exact (m6 k q).imp (fun q => .inr (.inr q)) id
  obtain ⟨-, bw, A1, A2, A3, l12, l23⟩ := unhide HK5
  have l01 := unhide HS1
  have l35 := lt_of_row A3.blk
  have s1 : ∀ k, w.heap.size ≤ k → ¬ (k = Z ∨ fr.ownBlock = some k ∨ wa.ownBlock = some k) := fun k hk q => by have := low k q; omega
  have s2 : ∀ k, w.heap.size ≤ k → k < w5.heap.size → ¬ (k = Z ∨ fr1.ownBlock = some k ∨ wa1.ownBlock = some k) := fun k hk hk2 q => by
    rcases low1 k q with q | q
    · have := low k q; omega
    · omega
  have B1 := A1.only O6 (s1 _ l01) (fun i hi => s1 i (A1.new i hi).1)
  have B2 := A2.only O6 (s1 _ (by omega)) (fun i hi => s1 i (by have := (A2.new i hi).1; omega))
  have B3 := A3.only O6 (s1 _ (by omega)) (fun i hi => s1 i (by have := (A3.new i hi).1; omega))
  have OO := (Only.of_below (P := fun k => k = Z ∨ fr.ownBlock = some k ∨ wa.ownBlock = some k) bw).trans O6 (fun _ _ q => q)
  have u1 : ∀ {W : World}, Only (fun k => k = Z ∨ fr1.ownBlock = some k ∨ wa1.ownBlock = some k) w6 W → Ans w.heap.size w1.heap.size (.slice p1 hs.length c1) st b hs W := fun O => B1.only O (s2 _ l01 (by omega)) (fun i hi => s2 i (A1.new i hi).1 (A1.lt i hi))
  have u2 : ∀ {W : World}, Only (fun k => k = Z ∨ fr1.ownBlock = some k ∨ wa1.ownBlock = some k) w6 W → Ans w1.heap.size w2.heap.size (.slice p2 hs.length c2) st b hs W := fun O => B2.only O (s2 _ (by omega) (by omega)) (fun i hi => s2 i (by have := (A2.new i hi).1; omega) (A2.lt i hi))
  have u3 : ∀ {W : World}, Only (fun k => k = Z ∨ fr1.ownBlock = some k ∨ wa1.ownBlock = some k) w6 W → Ans w2.heap.size w3.heap.size (.slice p3 hs.length c3) st b hs W := fun O => B3.only O (s2 _ (by omega) (by omega)) (fun i hi => s2 i (by have := (A3.new i hi).1; omega) (A3.lt i hi))
  have uO : ∀ {W : World}, Only (fun k => k = Z ∨ fr1.ownBlock = some k ∨ wa1.ownBlock = some k) w6 W → Only (fun k => k = Z ∨ fr.ownBlock = some k ∨ wa.ownBlock = some k) w W := fun O => OO.trans O (fun k hk q => (low1 k q).elim id (fun q => by have := bw.size; omega))
  have d1 : w6.cell? ⟨w2.heap.size, 1, none⟩ = some (.slice p2 hs.length c2) := cell_of_row w6 _ 1 _ 26 (0, 0) B2.blk
  have e1 : w6.cell? ⟨w3.heap.size, 1, none⟩ = some (.slice p3 hs.length c3) := cell_of_row w6 _ 1 _ 26 (0, 0) B3.blk
  have v1 : ∀ k, fr1.ownBlock = some k → fr.ownBlock = some k ∨ w3.heap.size < k := fun k hk => (n6 k hk).imp id (fun q => by omega)
  have v2 : ∀ k, wa1.ownBlock = some k → wa.ownBlock = some k ∨ w3.heap.size < k := fun k hk => (m6 k hk).imp id (fun q => by omega)
  have l36 : w3.heap.size < w6.heap.size := lt_of_row B3.blk
  have HL := hide (show w.heap.size ≤ w1.heap.size ∧ w1.heap.size ≤ w2.heap.size ∧ w2.heap.size ≤ w3.heap.size from ⟨l01, Nat.le_of_lt l12, Nat.le_of_lt l23⟩)
  have HF := hide (And.intro @u1 (And.intro @u2 (And.intro @u3 (And.intro @uO (And.intro v1 (And.intro v2 l36))))))
  have H6 := hide h6
  clear u1 u2 u3 uO v1 v2 l36 h6 OO B1 B2 B3 s1 s2 l01 l35 bw A1 A2 A3 l12 l23 low low1 hb0 n6 m6 O6 HK5 HS1 HK
  go_wp2_with fail
  clear d1 e1
  refine (bookFields_any Z _ _ fr1 wa1 p2 p3 hs.length c2 hs.length c3 w6 (unhide H6) (by simp; omega) (by simp; omega)).mono ?_
  rintro e w7 ⟨rfl, fr2, wa2, h7, O7, n7, m7⟩
  have H7 := hide (And.intro h7 (And.intro O7 (And.intro n7 m7)))
  clear h7 O7 n7 m7
  go_wp2
  go_ret
  obtain ⟨u1, u2, u3, uO, v1, v2, l36⟩ := unhide HF
  obtain ⟨h7, O7, n7, m7⟩ := unhide H7
  refine ⟨rfl, fr2, wa2, w1.heap.size, w2.heap.size, w3.heap.size, _, _, _, h7, uO O7, u1 O7, u2 O7, u3 O7, fun k hk => ?_, fun k hk => ?_, unhide HL⟩
  · rcases n7 k hk with q | q
    · exact v1 k q
    · exact .inr (by omega)
  · rcases m7 k hk with q | q
    · exact v2 k q
    · exact .inr (by omega)
theorem pa_hs (p : Ps) (s : Bs) (hp : OkP p) : (prs5 (pa p s)).2.1.length ≤ 33 := by
  induction s generalizing p with
  | nil => exact Nat.zero_le _
  | cons b s ih =>
    simp only [pa]
    split
    · exact Nat.zero_le _
    · rename_i h1
      have h1' : (step opA p b).2 = 0 := by simpa using h1
      split
      · have := step_hs opA p b
        have := hp.2.2.1
        show (step opA p b).1.hs.length ≤ 33
        omega
      · rename_i h2
        exact ih _ (step_ok opA p b hp h1' h2)
/-- parses, whole: both are the document's, and four lists are noted. -/
theorem parses_any {B : Nat} (Z : Nat) (xs ys : List Value) (fr wa : Value) (s : Bs) (w : World) (hE : Env B w) (h : BkA Z xs ys fr wa w) (hx : xs.length ≤ 1000) (hy : ys.length ≤ 1000) (hs : s.length ≤ 1000000000000) :
    Calls Tryz.prog 29 #[.pointer (some ⟨Z, 0, none⟩), S s] w fun e w' => e = .returned (.bool true) ∧ ∃ fr' wa' g1 g2 g3 v1 v2 v3, 
      BkA Z (xs ++ [v1] ++ [v2]) (ys ++ [v3] ++ [v3]) fr' wa' w' ∧ Only (fun k => k = Z ∨ fr.ownBlock = some k ∨ wa.ownBlock = some k) w w' ∧ 
      Ans w.heap.size g1 v1 (prs5 (pa p0 s)).1 (prs5 (pa p0 s)).2.2.1 (prs5 (pa p0 s)).2.1 w' ∧ Ans g1 g2 v2 (prs5 (pa p0 s)).1 (prs5 (pa p0 s)).2.2.1 (prs5 (pa p0 s)).2.1 w' ∧ Ans g2 g3 v3 (prs5 (pa p0 s)).1 (prs5 (pa p0 s)).2.2.1 (prs5 (pa p0 s)).2.1 w' ∧
      (∀ k, fr'.ownBlock = some k → fr.ownBlock = some k ∨ g3 < k) ∧ (∀ k, wa'.ownBlock = some k → wa.ownBlock = some k ∨ g3 < k) ∧ w.heap.size ≤ g1 ∧ g1 ≤ g2 ∧ g2 ≤ g3 :=
  parses_gen Z xs ys fr wa s _ _ _ (prs5 (pa p0 s)).2.2.2.1 (prs5 (pa p0 s)).2.2.2.2 w hE h hx hy (Nat.le_trans (pa_hs p0 s okP0) (by omega))
    (fun W hW => (parseAnswer_any s W hW hs).mono fun e w' h => ⟨h.1.form, h.2⟩) (fun W => (rParseAnswer_any s W hs).mono fun e w' h => ⟨h.1.form, h.2⟩)
end Go.Proofs.YthlacailhfhjnaaGreatDoor
namespace Go.Proofs.YthlacailhfhjnaaGreatDoor
open Go.RowKit Go.Lib
variable {B b G n : Nat} {vs : Nat → Value} {m : Nat → Nat} {w0 : World} {lo i : Nat} {U V V2 : List Vw} {x al wh : Value} {len : Nat} {w w' : World} {Z : Nat} {fr wa : Value}
/-- A cell of a block of another kind is written. -/
theorem Alw.other (h : Alw B b G n vs m w0 lo i U V V2 x len al wh w) {cs : Array Value} (hZ : w.heap[Z]? = some (.cells cs 53 (0, 0))) (hB : B ≤ Z) (o : Nat) (v : Value) : Alw B b G n vs m w0 lo i U V V2 x len al wh (w.setCell ⟨Z, o, none⟩ v) := by
  have key : ∀ (g : Nat) (cur : Array Value) (e : TypeId), e ≠ 53 → w.heap[g]? = some (Obj.cells cur e (0, 0)) → (w.setCell ⟨Z, o, none⟩ v).heap[g]? = w.heap[g]? := by
    intro g cur e he hc
    refine heap_setCell_other _ _ _ _ (fun q => ?_)
    subst q
    rw [hZ] at hc
    cases hc
    exact he rfl
  obtain ⟨cG, hG⟩ := h.vst.kind
  refine ⟨h.vst.keep (fun g cur e he hc => ?_), h.s1.keep (fun g hg => ?_), h.s2.keep (fun g hg => ?_), h.below.setCell (p := ⟨Z, o, none⟩) hB _, by have := h.room; simp; omega, h.lowG, h.lowB⟩
  · rcases he with rfl | rfl
    · exact key g cur 35 (by decide) hc
    · exact key _ cG 22 (by decide) hG
  · obtain ⟨cur, e⟩ := h.s1.kind g hg
    exact key g cur 22 (by decide) e
  · obtain ⟨cur, e⟩ := h.s2.kind g hg
    exact key g cur 3 (by decide) e
/-- The views, with the book that holds the rows of them. -/
structure AlZ (B b G n : Nat) (vs : Nat → Value) (m : Nat → Nat) (w0 : World) (lo i : Nat) (U V V2 : List Vw) (x : Value) (len : Nat) (al wh : Value) (Z : Nat) (fr wa : Value) (w : World) : Prop where
  build ::
  a : Alw B b G n vs m w0 lo i U V V2 x len al wh w
  blk : w.heap[Z]? = some (.cells (bks fr wa al wh) 53 (0, 0))
  hz : B ≤ Z
theorem AlZ.keep (h : AlZ B b G n vs m w0 lo i U V V2 x len al wh Z fr wa w) (k : Below w.heap.size w w') : AlZ B b G n vs m w0 lo i U V V2 x len al wh Z fr wa w' :=
  ⟨h.a.keep k, (k.block _ (lt_heap h.blk)).trans h.blk, h.hz⟩
theorem AlZ.take (h : AlZ B b G n vs m w0 lo i U V V2 x len al wh Z fr wa w) (hl : lo < n) : AlZ B b G n vs m w0 (lo + 1) lo U V V2 (vs lo) (m lo) al wh Z fr wa w := ⟨h.a.take hl, h.blk, h.hz⟩
theorem AlZ.seen (h : AlZ B b G n vs m w0 lo i U V V2 x len al wh Z fr wa w) (hi : i < n) (hlen : len ≤ 1000000) : ∃ p c, x = .slice p len c ∧ AlZ B b G n vs m w0 lo i (U ++ [⟨p, len, c, i⟩]) V V2 x len al wh Z fr wa w := by
  obtain ⟨p, c, e, hv⟩ := h.a.vst.view hi hlen
  exact ⟨p, c, e, ⟨hv, h.a.s1, h.a.s2, h.a.below, h.a.room, h.a.lowG, h.a.lowB⟩, h.blk, h.hz⟩
theorem AlZ.neK (h : AlZ B b G n vs m w0 lo i U V V2 x len al wh Z fr wa w) {g : Nat} {cur : Array Value} {e : TypeId} (hc : w.heap[g]? = some (.cells cur e (0, 0))) (he : e ≠ 53) : g ≠ Z := fun q => by
  subst q
  rw [h.blk] at hc
  cases hc
  exact he rfl
theorem AlZ.push1 {p : Option Addr} {c : Nat} {al' : Value} (h : AlZ B b G n vs m w0 lo i U V V2 x len al wh Z fr wa w) (hv : Vst B G n vs m lo i (U ++ [⟨p, len, c, i⟩]) x len w)
    (hs : Sq b 22 w' al' (V.map Vw.val ++ [.slice p len c])) (hg : (w.alloc (.cells #[.slice p len c] 22)).grownBy w' al.ownBlock) :
    AlZ B b G n vs m w0 lo i (U ++ [⟨p, len, c, i⟩]) (V ++ [⟨p, len, c, i⟩]) V2 x len al' wh Z fr wa (w'.setCell ⟨Z, 3, none⟩ al') := by
  have hZ := lt_heap h.blk
  have e1 : w'.heap[Z]? = some (.cells (bks fr wa al wh) 53 (0, 0)) := (hg.block Z (by simp; omega) (fun q => by
    obtain ⟨cur, e⟩ := h.a.s1.kind Z q.symm
    exact h.neK e (by decide) rfl)).trans ((Below.heap_alloc w _ Z hZ).trans h.blk)
  refine ⟨(h.a.push1 hv hs hg).other e1 h.hz 3 al', ?_, h.hz⟩
  rw [heap_setCell_same _ _ _ _ 53 _ e1]
  rfl
theorem AlZ.push2 {y : Vw} {wh' : Value} (h : AlZ B b G n vs m w0 lo i U V V2 x len al wh Z fr wa w)
    (hs : Sq b 3 w' wh' (V2.map who ++ [who y])) (hg : (w.alloc (.cells #[who y] 3)).grownBy w' wh.ownBlock) :
    AlZ B b G n vs m w0 lo i U V (V2 ++ [y]) x len al wh' Z fr wa (w'.setCell ⟨Z, 4, none⟩ wh') := by
  have hZ := lt_heap h.blk
  have e1 : w'.heap[Z]? = some (.cells (bks fr wa al wh) 53 (0, 0)) := (hg.block Z (by simp; omega) (fun q => by
    obtain ⟨cur, e⟩ := h.a.s2.kind Z q.symm
    exact h.neK e (by decide) rfl)).trans ((Below.heap_alloc w _ Z hZ).trans h.blk)
  refine ⟨(h.a.push2 hs hg).other e1 h.hz 4 wh', ?_, h.hz⟩
  rw [heap_setCell_same _ _ _ _ 53 _ e1]
  rfl
theorem AlZ.grow {x' : Value} (h : AlZ B b G n vs m w0 lo i U V V2 x len al wh Z fr wa w) (hr : RwF w' x' (List.replicate len (mk i) ++ [mk i])) (hg : GrF x len (w.alloc (.cells #[S (mk i).1, S (mk i).2] 35)) w') (hx : (∃ g, x.ownBlock = some g ∧ x'.ownBlock = some g) ∨ x'.ownBlock = some (w.heap.size + 1)) : AlZ B b G n vs m w0 lo i U V V2 x' (len + 1) al wh Z fr wa w' := by
  have hZ := lt_heap h.blk
  refine ⟨h.a.grow hr hg hx, (hg.block Z (by simp; omega) (fun q => ?_)).trans ((Below.heap_alloc w _ Z hZ).trans h.blk), h.hz⟩
  obtain ⟨cur, e⟩ := h.a.vst.xrow.kind Z q
  exact h.neK e (by decide) rfl
end Go.Proofs.YthlacailhfhjnaaGreatDoor
