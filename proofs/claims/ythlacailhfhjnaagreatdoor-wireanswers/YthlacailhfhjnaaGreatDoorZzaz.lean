import Derived.Test.YthlacailhfhjnaaGreatDoorWcm
import Derived.BigRegion
namespace Go.Proofs.YthlacailhfhjnaaGreatDoor
open Go.RowKit Go.Lib
set_option maxHeartbeats 8000000 in
set_option maxRecDepth 8000 in
theorem begin_any {op P : Nat} {p : Ps} {nx hv : Value} {w : World} (h : PAt op P p nx hv w) :
    Calls Tryz.prog 49 #[ptr P] w fun e w' => e = .returned (.tuple #[]) ∧ (∃ O', Par op P p0 O' w' ∧ ∀ k, O' k → k = P ∨ w.heap.size ≤ k) ∧ Only (fun k => k = P) w w' := by
  have HB := hide h
  have d0 := h.cell 0
  have d1 := h.cell 1
  have d2 := h.cell 2
  have d3 := h.cell 3
  have d4 := h.cell 4
  have d5 := h.cell 5
  have d6 := h.cell 6
  have d7 := h.cell 7
  have d8 := h.cell 8
  have d9 := h.cell 9
  have dz : ∀ j, w.frozen? ⟨P, j, none⟩ = false := h.fz
  have dl := h.lt
  simp only [cellsP, List.getElem?_toArray, List.getElem?_cons_zero, List.getElem?_cons_succ] at d0 d1 d2 d3 d4 d5 d6 d7 d8 d9
  clear h
  have q9 := hide (row10 (unhide HB).blk (.int .i64 0) .nilFunc (Fn1 op) (.int .i64 0) (S []) (S []) (.int .i64 0) (.slice none 0 0) (.int .i64 (-1)) (S []))
  have o9 := hide (((((((((((Only.refl (fun k => k = P) w).put ⟨P, 0, none⟩ (.int .i64 0) (.inl rfl)).put ⟨P, 1, none⟩ .nilFunc (.inl rfl)).put ⟨P, 2, none⟩ (Fn1 op) (.inl rfl)).put ⟨P, 3, none⟩ (.int .i64 0) (.inl rfl)).put ⟨P, 4, none⟩ (S []) (.inl rfl)).put ⟨P, 5, none⟩ (S []) (.inl rfl)).put ⟨P, 6, none⟩ (.int .i64 0) (.inl rfl)).put ⟨P, 7, none⟩ (.slice none 0 0) (.inl rfl)).put ⟨P, 8, none⟩ (.int .i64 (-1)) (.inl rfl)).put ⟨P, 9, none⟩ (S []) (.inl rfl))
  go_enter Tryz.func49, Tryz.ntmps49
  go_wp2_with fail
  have hs : ((((((((((w.setCell ⟨P, 0, none⟩ (.int .i64 0)).setCell ⟨P, 1, none⟩ .nilFunc).setCell ⟨P, 2, none⟩ (Fn1 op)).setCell ⟨P, 3, none⟩ (.int .i64 0)).setCell ⟨P, 4, none⟩ (S [])).setCell ⟨P, 5, none⟩ (S [])).setCell ⟨P, 6, none⟩ (.int .i64 0)).setCell ⟨P, 7, none⟩ (.slice none 0 0)).setCell ⟨P, 8, none⟩ (.int .i64 (-1))).setCell ⟨P, 9, none⟩ (S [])).heap.size = w.heap.size := by simp [World.setCell]
  generalize ((((((((((w.setCell ⟨P, 0, none⟩ (.int .i64 0)).setCell ⟨P, 1, none⟩ .nilFunc).setCell ⟨P, 2, none⟩ (Fn1 op)).setCell ⟨P, 3, none⟩ (.int .i64 0)).setCell ⟨P, 4, none⟩ (S [])).setCell ⟨P, 5, none⟩ (S [])).setCell ⟨P, 6, none⟩ (.int .i64 0)).setCell ⟨P, 7, none⟩ (.slice none 0 0)).setCell ⟨P, 8, none⟩ (.int .i64 (-1))).setCell ⟨P, 9, none⟩ (S [])) = W1 at *
  have HS := hide hs
  clear hs
  refine (lines_any P W1).mono ?_
  rintro e w2 ⟨rfl, hw2⟩
  have hb2 : Below W1.heap.size W1 w2 := by rw [hw2]; exact ((Below.refl _ _).alloc (Nat.le_refl _) _).alloc (by simp) _
  have blk2 := (hb2.block P (by rw [unhide HS]; exact dl)).trans (unhide q9)
  have e1 : w2.cell? ⟨P, 1, none⟩ = some .nilFunc := cell_of_row w2 P 1 _ 91 (0, 0) blk2
  have ez : ∀ j, w2.frozen? ⟨P, j, none⟩ = false := fun j => frozen_of_row w2 P j _ 91 blk2
  have el := lt_of_row blk2
  have hQ : w2.heap[W1.heap.size]? = some (.cells #[ptr P] 80 (0, 0)) := by
    rw [hw2, heap_alloc_old _ _ (by simp)]; exact heap_alloc_new _ _
  have hL : w2.heap[W1.heap.size + 1]? = some (.cells #[.slice none 0 0] 102 (0, 0)) := by
    rw [hw2]
    have := heap_alloc_new (W1.alloc (.cells #[ptr P] 80)) (.cells #[.slice none 0 0] 102)
    simpa using this
  have HH := hide (And.intro hb2 (And.intro blk2 (And.intro hQ hL)))
  clear hb2 blk2 hQ hL hw2
  simp only [nxt]
  go_wp2
  go_end0
  obtain ⟨hb2, blk2, hQ, hL⟩ := unhide HH
  have hPQ : ¬ W1.heap.size = P := fun e => by rw [← unhide HS] at dl; omega
  have hPL : ¬ W1.heap.size + 1 = P := fun e => by rw [← unhide HS] at dl; omega
  have hp : PAt op P p0 (nxt 0 (W1.heap.size + 1) W1.heap.size 0) (.slice none 0 0) (w2.setCell ⟨P, 1, none⟩ (nxt 0 (W1.heap.size + 1) W1.heap.size 0)) := by
    refine ⟨?_, ⟨rfl, .inl ⟨rfl, rfl⟩⟩⟩
    rw [heap_setCell_same w2 P 1 _ 91 _ blk2]
    rfl
  have hl : LAt P p0 (W1.heap.size + 1) W1.heap.size 0 (.slice none 0 0) (w2.setCell ⟨P, 1, none⟩ (nxt 0 (W1.heap.size + 1) W1.heap.size 0)) := by
    refine ⟨?_, ?_, fun q => by simp [p0] at q, ⟨rfl, .inl ⟨rfl, rfl⟩⟩⟩
    · rw [heap_setCell_other w2 ⟨P, 1, none⟩ _ _ hPL]; exact hL
    · rw [heap_setCell_other w2 ⟨P, 1, none⟩ _ _ hPQ]; exact hQ
  refine ⟨rfl, ⟨_, Par.make hp (fun _ => ⟨rfl, hl⟩), ?_⟩, ((unhide o9).trans (Only.of_below (P := fun k => k = P) hb2) (fun _ _ q => q)).put ⟨P, 1, none⟩ _ (.inl rfl)⟩
  intro k hk
  rcases hk with rfl | hk | ⟨_, rfl | rfl | hk⟩ | ⟨q, rfl⟩
  · exact .inl rfl
  · cases hk
  · exact .inr (by have := unhide HS; omega)
  · exact .inr (by have := unhide HS; omega)
  · cases hk
  · simp [p0] at q
set_option maxHeartbeats 8000000 in
set_option maxRecDepth 8000 in
theorem newParser_any (op : Nat) (w : World) :
    Calls Tryz.prog 46 #[Fn1 op] w fun e w' => ∃ P O, e = .returned (ptr P) ∧ Par op P p0 O w' ∧ (∀ k, O k → w.heap.size ≤ k) ∧ Below w.heap.size w w' := by
  have h0 : PAt op w.heap.size ⟨0, 0, [], f00, [], 0, []⟩ .nilFunc (.slice none 0 0) (w.alloc (.cells #[.int .i64 0, .nilFunc, Fn1 op, .int .i64 0, S [], S [], .int .i64 0, .slice none 0 0, .int .i64 0, S []] 91)) := ⟨heap_alloc_new _ _, ⟨rfl, .inl ⟨rfl, rfl⟩⟩⟩
  have HB := hide (begin_any h0)
  have b0 := hide ((Below.refl w.heap.size w).alloc (Nat.le_refl _) (.cells #[.int .i64 0, .nilFunc, Fn1 op, .int .i64 0, S [], S [], .int .i64 0, .slice none 0 0, .int .i64 0, S []] 91))
  have hs : Hid ((w.alloc (.cells #[.int .i64 0, .nilFunc, Fn1 op, .int .i64 0, S [], S [], .int .i64 0, .slice none 0 0, .int .i64 0, S []] 91)).heap.size = w.heap.size + 1) := hide (by simp)
  clear h0
  go_enter Tryz.func46, Tryz.ntmps46
  go_wp2_with fail
  generalize w.alloc (.cells #[.int .i64 0, .nilFunc, Fn1 op, .int .i64 0, S [], S [], .int .i64 0, .slice none 0 0, .int .i64 0, S []] 91) = W1 at *
  refine (unhide HB).mono ?_
  rintro e w2 ⟨rfl, hex, ho⟩
  have HX := hide hex
  have HO := hide ho
  clear hex ho
  go_wp2
  go_ret
  obtain ⟨O', a1, a2⟩ := unhide HX
  refine ⟨w.heap.size, O', rfl, a1, fun k hk => ?_, (unhide HO).below (unhide b0) (by rw [unhide hs]; omega) (fun k e => by rw [e]; exact Nat.le_refl _)⟩
  rcases a2 k hk with rfl | q
  · exact Nat.le_refl _
  · rw [unhide hs] at q; omega
/-- A reader: what it has read, with the blocks that are its own. -/
structure Rdr (R : Nat) (p : Ps) (O : Nat → Prop) (w : World) : Prop where
  ex : ∃ P, w.heap[R]? = some (.cells #[ptr P] 84 (0, 0)) ∧ ((OkP p ∧ ∃ O1, Par 47 P p O1 w ∧ (∀ k, O1 k → O k) ∧ ¬ O1 R) ∨ (p = pov ∧ POv P w ∧ O P))
  inR : O R
  lt : ∀ k, O k → k < w.heap.size
theorem Rdr.keep {R : Nat} {p : Ps} {O X : Nat → Prop} {w w' : World} (h : Rdr R p O w) (ho : Only X w w') (hx : ∀ k, O k → ¬ X k) : Rdr R p O w' := by
  obtain ⟨⟨P, h1, h2⟩, h3, h4⟩ := h
  refine ⟨⟨P, (ho.block R (lt_of_row h1) (hx R h3)).trans h1, ?_⟩, h3, fun k hk => Nat.lt_of_lt_of_le (h4 k hk) ho.size⟩
  rcases h2 with ⟨a1, O1, a2, a3, a4⟩ | ⟨a1, a2, a3⟩
  · exact .inl ⟨a1, O1, a2.keep ho (fun k hk => hx k (a3 k hk)), a3, a4⟩
  · exact .inr ⟨a1, (ho.block P (lt_of_row a2) (hx P a3)).trans a2, a3⟩
theorem Rdr.below {R : Nat} {p : Ps} {O : Nat → Prop} {w w' : World} (h : Rdr R p O w) (hb : Below w.heap.size w w') : Rdr R p O w' := h.keep (Only.of_below (P := fun _ => False) hb) (fun _ _ q => q)
set_option maxHeartbeats 8000000 in
set_option maxRecDepth 8000 in
theorem newReader_any (w : World) :
    Calls Tryz.prog 19 #[] w fun e w' => ∃ R O, e = .returned (ptr R) ∧ Rdr R p0 O w' ∧ (∀ k, O k → w.heap.size ≤ k) ∧ Below w.heap.size w w' := by
  have HN := hide (newParser_any 47 w)
  go_enter Tryz.func19, Tryz.ntmps19
  go_wp2_with fail
  refine (unhide HN).mono ?_
  rintro e w1 ⟨P, O, rfl, h1, h2, h3⟩
  have H1 := hide h1
  have H2 := hide h2
  have H3 := hide h3
  clear h1 h2 h3
  go_wp2
  go_ret
  have hal := (Below.refl w1.heap.size w1).alloc (Nat.le_refl _) (Obj.cells #[ptr P] 84)
  refine ⟨w1.heap.size, fun k => O k ∨ k = w1.heap.size, rfl, ⟨⟨P, heap_alloc_new _ _, .inl ⟨okP0, O, (unhide H1).below hal, fun k hk => .inl hk, fun q => by have := (unhide H1).lt _ q; omega⟩⟩, .inr rfl, ?_⟩, ?_, (unhide H3).trans (hal.mono (unhide H3).size)⟩
  · intro k hk
    rcases hk with hk | rfl
    · have := (unhide H1).lt k hk; simp; omega
    · simp
  · intro k hk
    rcases hk with hk | rfl
    · exact unhide H2 k hk
    · exact (unhide H3).size
theorem rd_pov : pov.rd = 0 := rfl
set_option maxHeartbeats 8000000 in
set_option maxRecDepth 8000 in
theorem waiting_any {R : Nat} {p : Ps} {O : Nat → Prop} {w : World} (h : Rdr R p O w) :
    Calls Tryz.prog 25 #[ptr R] w fun e w' => e = .returned (.int .i64 p.rd) ∧ w' = w := by
  obtain ⟨⟨P, h1, h2⟩, h3, h4⟩ := h
  have c0 : w.cell? ⟨R, 0, none⟩ = some (ptr P) := cell_of_row w R 0 _ 84 (0, 0) h1
  have c3 : w.cell? ⟨P, 3, none⟩ = some (.int .i64 p.rd) := by
    rcases h2 with ⟨_, O1, ⟨⟨nx, hv, q, _⟩, _, _⟩, _⟩ | ⟨rfl, q, _⟩
    · exact q.cell 3
    · exact cell_of_row w P 3 _ 91 (0, 0) q
  clear h1 h2 h3 h4
  go_enter Tryz.func25, Tryz.ntmps25
  go_wp2
  go_ret
  exact ⟨rfl, rfl⟩
end Go.Proofs.YthlacailhfhjnaaGreatDoor
namespace Go.Proofs.YthlacailhfhjnaaGreatDoor
open Go.RowKit Go.Lib
theorem step_err (op : Bs → Option Fst) (p : Ps) (b : UInt8) (h : (step op p b).2 ≠ 0) : (step op p b).1 = pov := by
  unfold step at h ⊢
  split
  · rename_i h1
    rw [if_pos h1] at h
    split
    · rename_i h2
      rw [if_pos h2] at h
      unfold judge at h ⊢
      split
      · rename_i h3
        rw [if_pos h3] at h
        unfold jFst at h ⊢
        split
        · rfl
        · rename_i f h4
          rw [h4] at h
          split
          · rename_i h5; simp [h5] at h
          · rfl
      · rename_i h3
        rw [if_neg h3] at h
        split
        · rename_i h4; rw [if_pos h4] at h; simp at h
        · rename_i h4
          rw [if_neg h4] at h
          unfold jHdr at h ⊢
          split
          · rfl
          · rename_i h5
            rw [if_neg h5] at h
            split
            · rename_i h6
              rw [if_pos h6] at h
              unfold jLen at h ⊢
              split
              · rfl
              · split
                · rfl
                · rename_i h7 h8; rw [if_neg h7, if_neg h8] at h; simp at h
            · rename_i h6
              rw [if_neg h6] at h
              split
              · rfl
              · rename_i h7; rw [if_neg h7] at h; simp at h
    · rename_i h2
      rw [if_neg h2] at h
      split
      · rfl
      · rename_i h3; rw [if_neg h3] at h; simp at h
  · rename_i h1
    rw [if_neg h1] at h
    split
    · rename_i h2; rw [if_pos h2] at h; simp at h
    · rename_i h2; rw [if_neg h2] at h; simp at h
theorem fd_one (q : Ps) (b : UInt8) (l : List Ms) : fd q [b] l = if (step opM q b).2 ≠ 0 then ((step opM q b).1, l, (step opM q b).2) else if (step opM q b).1.st = 3 then (p0, l ++ [(step opM q b).1.ms], 0) else ((step opM q b).1, l, 0) := by
  simp only [fd]
theorem fd_take {p q : Ps} {s : Bs} {l : List Ms} {k : Nat} (hk : k < s.length) (h : fd p (s.take k) [] = (q, l, 0)) : fd p (s.take (k + 1)) [] = fd q [s[k]] l := by
  rw [take_snoc s k hk, fd_append, h]
  simp
/-- What goes wrong goes wrong for all that follows. -/
theorem fd_stop {p : Ps} {s : Bs} {r : Ps × List Ms × Nat} (k : Nat) (h : fd p (s.take k) [] = r) (he : r.2.2 ≠ 0) : fd p s [] = r := by
  conv => lhs; rw [← List.take_append_drop k s, fd_append, h]
  rw [if_pos he]
theorem fd_rd (p : Ps) (s : Bs) (l : List Ms) (hp : p.st ≤ 3) (h : (fd p s l).2.2 = 0) : (fd p s l).1.rd ≤ p.rd + s.length ∧ (fd p s l).1.st ≤ 3 := by
  induction s generalizing p l with
  | nil => exact ⟨by simp [fd], hp⟩
  | cons b s ih =>
    simp only [fd] at h ⊢
    split
    · rename_i h1; rw [if_pos h1] at h; exact absurd h h1
    · rename_i h1
      rw [if_neg h1] at h
      have h1' : (step opM p b).2 = 0 := by simpa using h1
      have h2 := step_rd opM p b h1' hp
      split
      · rename_i h3
        rw [if_pos h3] at h
        have := ih p0 _ (by decide) h
        exact ⟨by have := this.1; simp [p0] at this ⊢; omega, this.2⟩
      · rename_i h3
        rw [if_neg h3] at h
        have := ih _ _ h2.2 h
        exact ⟨by simp only [List.length_cons]; omega, this.2⟩
def cellsM (l : List (Ms × Value)) : List Value := l.flatMap fun x => [S x.1.m, S x.1.p, x.2, S x.1.b]
theorem cellsM_append (a b : List (Ms × Value)) : cellsM (a ++ b) = cellsM a ++ cellsM b := by simp [cellsM]
/-- Messages in memory: their row, and the rows of their headers. -/
structure MAt (V : Value) (l : List (Ms × Value)) (M : Nat → Prop) (w : World) : Prop where
  row : w.ownsRow 0 24 4 V l.length (cellsM l)
  hrow : ∀ x ∈ l, w.ownsRow 0 35 2 x.2 x.1.hs.length (cellsF x.1.hs)
  inV : ∀ k, V.ownBlock = some k → M k
  inH : ∀ x ∈ l, ∀ k, x.2.ownBlock = some k → M k
  apart : l.Pairwise (fun x y => ∀ k, x.2.ownBlock = some k → y.2.ownBlock ≠ some k)
  lt : ∀ k, M k → k < w.heap.size
theorem MAt.nil (w : World) : MAt (.slice none 0 0) [] (fun _ => False) w := ⟨⟨rfl, .inl ⟨rfl, rfl⟩⟩, fun _ h => (nomatch h), fun _ h => (nomatch h), fun _ h => (nomatch h), List.Pairwise.nil, fun _ q => q.elim⟩
theorem MAt.keep {V : Value} {l : List (Ms × Value)} {M X : Nat → Prop} {w w' : World} (h : MAt V l M w) (ho : Only X w w') (hx : ∀ k, M k → ¬ X k) : MAt V l M w' := by
  refine ⟨owns_same h.row (fun k hk => ho.block k (h.lt k (h.inV k hk)) (hx k (h.inV k hk))), fun x hxl => owns_same (h.hrow x hxl) (fun k hk => ho.block k (h.lt k (h.inH x hxl k hk)) (hx k (h.inH x hxl k hk))), h.inV, h.inH, h.apart, fun k hk => Nat.lt_of_lt_of_le (h.lt k hk) ho.size⟩
/-- What holds between two bytes of Feed. -/
structure Fdj (R P : Nat) (p : Ps) (s : Bs) (O : Nat → Prop) (w : World) (k : Nat) (q : Ps) (l : List (Ms × Value)) (O' M : Nat → Prop) (V : Value) (wr : World) : Prop where
  fdq : fd p (s.take k) [] = (q, l.map (·.1), 0)
  ok : OkP q
  par : Par 47 P q O' wr
  mat : MAt V l M wr
  s1 : ∀ j, O' j → O j ∨ w.heap.size ≤ j
  s2 : ∀ j, M j → O j ∨ w.heap.size ≤ j
  s3 : ∀ j, O' j → ¬ M j
  s4 : ¬ O' R
  s5 : ¬ M R
  rb : wr.heap[R]? = some (.cells #[ptr P] 84 (0, 0))
  only : Only O w wr
  inR : O R
/-- What Feed leaves. -/
structure Fed (R : Nat) (r : Ps × List Ms × Nat) (O : Nat → Prop) (V : Value) (w w' : World) : Prop where
  ex : ∃ l O' M, r.2.1 = l.map (·.1) ∧ MAt V l M w' ∧ Rdr R r.1 O' w' ∧ (∀ j, O' j → O j ∨ w.heap.size ≤ j) ∧ (∀ j, M j → O j ∨ w.heap.size ≤ j) ∧ (∀ j, O' j → ¬ M j)
  only : Only O w w'
variable {R P k : Nat} {p q : Ps} {s : Bs} {O O' M : Nat → Prop} {w wr w2 : World} {l : List (Ms × Value)} {V : Value}
theorem Fdj.drew (h : Fdj R P p s O w k q l O' M V wr) : Fdj R P p s O w k q l O' M V wr.drew :=
  ⟨h.fdq, h.ok, h.par.below ((Below.refl _ _).drew), h.mat.keep (Only.drew (fun _ => False) wr) (fun _ _ q => q), h.s1, h.s2, h.s3, h.s4, h.s5, h.rb, h.only.trans (Only.drew (fun _ => False) wr) (fun _ _ q => q.elim), h.inR⟩
theorem Fdj.on (h : Fdj R P p s O w k q l O' M V wr) (ho : Only O' wr w2) : Only O w w2 :=
  h.only.trans ho (fun j hj q => by rcases h.s1 j q with r | r; exact r; omega)
theorem Fdj.rb2 (h : Fdj R P p s O w k q l O' M V wr) (ho : Only O' wr w2) : w2.heap[R]? = some (.cells #[ptr P] 84 (0, 0)) := (ho.block R (lt_of_row h.rb) h.s4).trans h.rb
theorem Fdj.mat2 (h : Fdj R P p s O w k q l O' M V wr) (ho : Only O' wr w2) : MAt V l M w2 := h.mat.keep ho (fun j hj q => h.s3 j q hj)
theorem Fdj.err (h : Fdj R P p s O w k q l O' M V wr) (hk : k < s.length) (ht : Tk 47 P (step opM q s[k]) O' wr w2) (hne : (step opM q s[k]).2 ≠ 0) : (fd p s []).2.2 = (step opM q s[k]).2 ∧ Fed R (fd p s []) O V w w2 := by
  have hf : fd p s [] = (pov, l.map (·.1), (step opM q s[k]).2) := by
    refine fd_stop (k + 1) ?_ hne
    rw [fd_take hk h.fdq, fd_one, if_pos hne, step_err opM q _ hne]
  rw [hf]
  refine ⟨rfl, ⟨⟨l, fun j => O' j ∨ j = R, M, rfl, h.mat2 ht.only, ⟨⟨P, h.rb2 ht.only, .inr ⟨rfl, ht.bad hne, .inl h.par.inP⟩⟩, .inr rfl, ?_⟩, ?_, h.s2, ?_⟩, h.on ht.only⟩⟩
  · intro j hj
    rcases hj with hj | rfl
    · exact Nat.lt_of_lt_of_le (h.par.lt j hj) ht.only.size
    · exact Nat.lt_of_lt_of_le (lt_of_row h.rb) ht.only.size
  · intro j hj
    rcases hj with hj | rfl
    · exact h.s1 j hj
    · exact .inl h.inR
  · intro j hj
    rcases hj with hj | rfl
    · exact h.s3 j hj
    · exact h.s5
theorem Fdj.go (h : Fdj R P p s O w k q l O' M V wr) (hk : k < s.length) (ht : Tk 47 P (step opM q s[k]) O' wr w2) (he : (step opM q s[k]).2 = 0) (h3 : (step opM q s[k]).1.st ≠ 3) : ∃ O2, Fdj R P p s O w (k + 1) (step opM q s[k]).1 l O2 M V w2 := by
  obtain ⟨O2, a1, a2⟩ := ht.ok he
  refine ⟨O2, ?_, step_ok opM q _ h.ok he h3, a1, h.mat2 ht.only, ?_, h.s2, ?_, ?_, h.s5, h.rb2 ht.only, h.on ht.only, h.inR⟩
  · rw [fd_take hk h.fdq, fd_one, if_neg (by simpa using he), if_neg h3]
  · intro j hj
    rcases a2 j hj with q | q
    · exact h.s1 j q
    · exact .inr (Nat.le_trans h.only.size q)
  · intro j hj hm
    rcases a2 j hj with q | q
    · exact h.s3 j q hm
    · have := h.mat.lt j hm; omega
  · intro hj
    rcases a2 R hj with q | q
    · exact h.s4 q
    · have := lt_of_row h.rb; omega
theorem Fdj.end (h : Fdj R P p s O w k q l O' M V wr) (hk : s.length ≤ k) : (fd p s []).2.2 = 0 ∧ Fed R (fd p s []) O V w wr := by
  have hf := h.fdq
  rw [List.take_of_length_le hk] at hf
  rw [hf]
  refine ⟨rfl, ⟨⟨l, fun j => O' j ∨ j = R, M, rfl, h.mat, ⟨⟨P, h.rb, .inl ⟨h.ok, O', h.par, fun j hj => .inl hj, h.s4⟩⟩, .inr rfl, ?_⟩, ?_, h.s2, ?_⟩, h.only⟩⟩
  · intro j hj
    rcases hj with hj | rfl
    · exact h.par.lt j hj
    · exact lt_of_row h.rb
  · intro j hj
    rcases hj with hj | rfl
    · exact h.s1 j hj
    · exact .inl h.inR
  · intro j hj
    rcases hj with hj | rfl
    · exact h.s3 j hj
    · exact h.s5
/-- A message that is whole: it is told, and the parser begins anew. -/
theorem Fdj.done (h : Fdj R P p s O w k q l O' M V wr) (hk : k < s.length) (ht : Tk 47 P (step opM q s[k]) O' wr w2) (he : (step opM q s[k]).2 = 0) (h3 : (step opM q s[k]).1.st = 3)
    {nx hv : Value} (hp : PAt 47 P (step opM q s[k]).1 nx hv w2) {O2 : Nat → Prop} (a2 : ∀ j, O2 j → O' j ∨ wr.heap.size ≤ j) (aP : O2 P) (aH : ∀ j, hv.ownBlock = some j → O2 j)
    {w3 w4 w5 : World} (b3 : Below w2.heap.size w2 w3) {V' : Value} (hV : w4.ownsRow 0 24 4 V' (l.length + 1) (cellsM l ++ [S (step opM q s[k]).1.fs.m, S (step opM q s[k]).1.fs.p, hv, S (step opM q s[k]).1.bd])) (o4 : Only (fun j => V.ownBlock = some j) w3 w4) (n4 : ∀ j, V'.ownBlock = some j → V.ownBlock = some j ∨ w3.heap.size ≤ j)
    {O5 : Nat → Prop} (p5 : Par 47 P p0 O5 w5) (s5 : ∀ j, O5 j → j = P ∨ w4.heap.size ≤ j) (o5 : Only (fun j => j = P) w4 w5) :
    ∃ l' M', Fdj R P p s O w (k + 1) p0 l' O5 M' V' w5 := by
  have hm2 := h.mat2 ht.only
  have hrb2 := h.rb2 ht.only
  have sz := ht.only.size
  have dM : ∀ j, O2 j → ¬ M j := fun j hj hm => by
    rcases a2 j hj with q | q
    · exact h.s3 j q hm
    · have := h.mat.lt j hm; omega
  have dR : ¬ O2 R := fun hj => by
    rcases a2 R hj with q | q
    · exact h.s4 q
    · have := lt_of_row h.rb; omega
  have hvlt : ∀ j, hv.ownBlock = some j → j < w2.heap.size := fun j hj => by
    obtain ⟨cs, q⟩ := owns_lt hp.hrow j hj; exact lt_of_row q
  have hVlt : ∀ j, V.ownBlock = some j → j < w2.heap.size := fun j hj => by
    obtain ⟨cs, q⟩ := owns_lt hm2.row j hj; exact lt_of_row q
  -- through w3, w4, w5
  have hp3 := hp.below b3
  have hPV : ¬ V.ownBlock = some P := fun e => dM P aP (h.mat.inV P e)
  have hp4 := hp3.keep o4 hPV (fun j hj e => dM j (aH j hj) (h.mat.inV j e))
  have hm3 := hm2.keep (Only.of_below (P := fun _ => False) b3) (fun _ _ q => q)
  have hne : ∀ x ∈ l, ∀ j, x.2.ownBlock = some j → ¬ V.ownBlock = some j := fun x hx j hj e => by
    obtain ⟨c1, q1⟩ := owns_lt (hm3.hrow x hx) j hj
    obtain ⟨c2, q2⟩ := owns_lt hm3.row j e
    rw [q1] at q2
    simp at q2
  have hr4 : ∀ x ∈ l, w4.ownsRow 0 35 2 x.2 x.1.hs.length (cellsF x.1.hs) := fun x hx => owns_same (hm3.hrow x hx) (fun j hj => o4.block j (hm3.lt j (hm3.inH x hx j hj)) (hne x hx j hj))
  have hPM : ∀ j, M j → j ≠ P := fun j hj e => dM P aP (by rw [← e]; exact hj)
  have hV5 : w5.ownsRow 0 24 4 V' (l.length + 1) (cellsM l ++ [S (step opM q s[k]).1.fs.m, S (step opM q s[k]).1.fs.p, hv, S (step opM q s[k]).1.bd]) := owns_same hV (fun j hj => by
    obtain ⟨cs, q⟩ := owns_lt hV j hj
    refine o5.block j (lt_of_row q) (fun e => ?_)
    rw [e, hp4.blk] at q
    simp at q)
  have hh5 : w5.ownsRow 0 35 2 hv (step opM q s[k]).1.hs.length (cellsF (step opM q s[k]).1.hs) := owns_same hp4.hrow (fun j hj => by
    obtain ⟨cs, q⟩ := owns_lt hp4.hrow j hj
    refine o5.block j (lt_of_row q) (fun e => ?_)
    rw [e, hp4.blk] at q
    simp at q)
  have hr5 : ∀ x ∈ l, w5.ownsRow 0 35 2 x.2 x.1.hs.length (cellsF x.1.hs) := fun x hx => owns_same (hr4 x hx) (fun j hj => by
    obtain ⟨cs, q⟩ := owns_lt (hr4 x hx) j hj
    exact o5.block j (lt_of_row q) (hPM j (h.mat.inH x hx j hj)))
  have z3 := b3.size
  have z4 := o4.size
  have z5 := o5.size
  have nV4 : ∀ j, V'.ownBlock = some j → j < w4.heap.size := fun j hj => by
    obtain ⟨cs, q⟩ := owns_lt hV j hj; exact lt_of_row q
  have z0 := h.only.size
  refine ⟨l ++ [((step opM q s[k]).1.ms, hv)], fun j => M j ∨ V'.ownBlock = some j ∨ hv.ownBlock = some j, ?_, okP0, p5, ⟨?_, ?_, fun j hj => .inr (.inl hj), ?_, ?_, ?_⟩, ?_, ?_, ?_, ?_, ?_, ?_, ?_, h.inR⟩
  · rw [fd_take hk h.fdq, fd_one, if_neg (by simpa using he), if_pos h3]
    simp
  · rw [List.length_append, cellsM_append]
    exact hV5
  · intro x hx
    rw [List.mem_append] at hx
    rcases hx with hx | hx
    · exact hr5 x hx
    · rw [List.mem_singleton] at hx
      subst hx
      exact hh5
  · intro x hx j hj
    rw [List.mem_append] at hx
    rcases hx with hx | hx
    · exact .inl (h.mat.inH x hx j hj)
    · rw [List.mem_singleton] at hx
      subst hx
      exact .inr (.inr hj)
  · rw [List.pairwise_append]
    refine ⟨h.mat.apart, List.pairwise_singleton _ _, fun x hx y hy j hj e => ?_⟩
    rw [List.mem_singleton] at hy
    subst hy
    exact dM j (aH j e) (h.mat.inH x hx j hj)
  · intro j hj
    rcases hj with hj | hj | hj
    · have := h.mat.lt j hj; omega
    · have := nV4 j hj; omega
    · have := hvlt j hj; omega
  · intro j hj
    rcases s5 j hj with rfl | q
    · rcases a2 _ aP with q | q
      · exact h.s1 _ q
      · exact .inr (by omega)
    · exact .inr (by omega)
  · intro j hj
    rcases hj with hj | hj | hj
    · exact h.s2 j hj
    · rcases n4 j hj with q | q
      · exact h.s2 j (h.mat.inV j q)
      · exact .inr (by omega)
    · rcases a2 j (aH j hj) with q | q
      · exact h.s1 j q
      · exact .inr (by omega)
  · intro j hj hm
    rcases s5 j hj with rfl | q
    · rcases hm with hm | hm | hm
      · exact dM _ aP hm
      · obtain ⟨cs, q⟩ := owns_lt hV _ hm
        rw [hp4.blk] at q
        simp at q
      · exact hp.ne hm
    · rcases hm with hm | hm | hm
      · have := h.mat.lt j hm; omega
      · have := nV4 j hm; omega
      · have := hvlt j hm; omega
  · intro hj
    rcases s5 R hj with e | q
    · exact dR (by rw [e]; exact aP)
    · have := lt_of_row h.rb; omega
  · intro hj
    rcases hj with hj | hj | hj
    · exact h.s5 hj
    · obtain ⟨cs, q⟩ := owns_lt hV R hj
      have e3 := (b3.block R (lt_of_row hrb2)).trans hrb2
      have hRV : ¬ V.ownBlock = some R := fun e => h.s5 (h.mat.inV R e)
      have e4 := (o4.block R (lt_of_row e3) hRV).trans e3
      rw [e4] at q
      simp at q
    · exact dR (aH R hj)
  · have e3 := (b3.block R (lt_of_row hrb2)).trans hrb2
    have hRV : ¬ V.ownBlock = some R := fun e => h.s5 (h.mat.inV R e)
    have e4 := (o4.block R (lt_of_row e3) hRV).trans e3
    refine (o5.block R (lt_of_row e4) (fun e => ?_)).trans e4
    exact dR (by rw [e]; exact aP)
  · refine (((h.on ht.only).trans (Only.of_below (P := fun _ => False) b3) (fun _ _ q => q.elim)).trans o4 (fun j hj e => ?_)).trans o5 (fun j hj e => ?_)
    · rcases h.s2 j (h.mat.inV j e) with q | q
      · exact q
      · omega
    · rw [e] at hj ⊢
      rcases a2 P aP with q | q
      · rcases h.s1 P q with r | r
        · exact r
        · omega
      · omega
set_option maxHeartbeats 8000000 in
set_option maxRecDepth 8000 in
theorem feed_over {R : Nat} {O : Nat → Prop} {w : World} (h : Rdr R pov O w) (s : Bs) :
    Calls Tryz.prog 21 #[ptr R, S s] w fun e w' => e = .returned (.tuple #[.slice none 0 0, .int .i64 54]) ∧ w' = w := by
  obtain ⟨⟨P, h1, h2⟩, h3, h4⟩ := h
  have c0 : w.cell? ⟨R, 0, none⟩ = some (ptr P) := cell_of_row w R 0 _ 84 (0, 0) h1
  have c3 : w.cell? ⟨P, 0, none⟩ = some (.int .i64 4) := by
    rcases h2 with ⟨q, _⟩ | ⟨_, q, _⟩
    · have := q.1; simp [pov] at this
    · exact cell_of_row w P 0 _ 91 (0, 0) q
  clear h1 h2 h3 h4
  go_enter Tryz.func21, Tryz.ntmps21
  go_wp2
  go_ret2
  exact ⟨rfl, rfl⟩
end Go.Proofs.YthlacailhfhjnaaGreatDoor
