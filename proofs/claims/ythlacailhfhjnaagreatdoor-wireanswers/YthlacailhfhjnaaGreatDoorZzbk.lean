import Derived.Test.YthlacailhfhjnaaGreatDoorZzbj
import Derived.Test.YthlacailhfhjnaaGreatDoorZzbe
namespace Go.Proofs.YthlacailhfhjnaaGreatDoor
open Go.RowKit Go.Lib
/-- What a first line of a message leaves in the box. -/
def Akd (P : Nat) (st : Int) (hv : Value) (b : Bs) (n : Int) (wh : Bool) (e : Int) (s : Bs) (w w' : World) : Prop := ∃ m p : Bs, w'.heap[P]? = some (.cells (gcs m p st hv b n wh e) 93 (0, 0)) ∧ Only (fun k => k = P) w w' ∧ (∀ f, opM s = some f → m = f.m ∧ p = f.p)
theorem opM_none {s : Bs} (h : ¬ ((hd 32 s).length < s.length ∧ (hd 32 (tl 32 s)).length < (tl 32 s).length)) : opM s = none := by
  unfold opM
  rw [if_neg]
  intro q
  simp only [Bool.and_eq_true] at q
  obtain ⟨⟨_, q2⟩, q3⟩ := q
  apply h
  have ht : (hd 32 (tl 32 s)).length < (tl 32 s).length := by
    rcases (hd_split 32 (tl 32 s)).2 with ⟨e, _⟩ | ⟨_, e⟩
    · exact e
    · exfalso
      have : tl 32 (tl 32 s) = [] := by
        unfold tl
        have : List.dropWhile (fun x => !x == (32 : UInt8)) (tl 32 s) = [] := by
          have h1 := List.takeWhile_append_dropWhile (p := fun x => !x == (32 : UInt8)) (l := tl 32 s)
          have h2 : List.takeWhile (fun x => !x == (32 : UInt8)) (tl 32 s) = tl 32 s := e
          rw [h2] at h1
          exact List.append_right_eq_self.1 h1
        unfold tl at this
        rw [this]
        rfl
      rw [this] at q3
      exact absurd q3 (by decide)
  refine ⟨?_, ht⟩
  rcases (hd_split 32 s).2 with ⟨e, _⟩ | ⟨_, e⟩
  · exact e
  · exfalso
    have : tl 32 s = [] := by
      unfold tl
      have : List.dropWhile (fun x => !x == (32 : UInt8)) s = [] := by
        have h1 := List.takeWhile_append_dropWhile (p := fun x => !x == (32 : UInt8)) (l := s)
        have h2 : List.takeWhile (fun x => !x == (32 : UInt8)) s = s := e
        rw [h2] at h1
        exact List.append_right_eq_self.1 h1
      rw [this]
      rfl
    rw [this] at ht
    simp [hd] at ht
theorem rct_form (c : UInt8) (s : Bs) : ∃ a r o, rct c s = .tuple #[S a, S r, .bool o] ∧ ((o = true ∧ a = hd c s ∧ r = tl c s ∧ (hd c s).length < s.length) ∨ (o = false ∧ a = [] ∧ r = [] ∧ ¬ (hd c s).length < s.length)) := by
  by_cases h : (hd c s).length < s.length
  · exact ⟨_, _, true, by unfold rct; rw [if_pos h], .inl ⟨rfl, rfl, rfl, h⟩⟩
  · exact ⟨[], [], false, by unfold rct; rw [if_neg h], .inr ⟨rfl, rfl, rfl, h⟩⟩
set_option maxHeartbeats 4000000 in
set_option maxRecDepth 8000 in
theorem rasked_any (P : Nat) (m p : Bs) (st : Int) (hv : Value) (b : Bs) (n : Int) (wh : Bool) (e : Int) (s : Bs) (w : World) (hs : s.length ≤ 1000000) (hx : w.heap[P]? = some (.cells (gcs m p st hv b n wh e) 93 (0, 0))) :
    Calls Tryz.prog 79 #[ptr P, S s] w fun r w' => r = .returned (.bool (opM s).isSome) ∧ Akd P st hv b n wh e s w w' := by
  have HX := hide hx
  have HC1 := hide (rcut_any 32 s w (by omega))
  obtain ⟨a2, r2, o1, e1, f1⟩ := rct_form 32 s
  rw [e1] at HC1
  have hr2 : r2.length ≤ s.length ∧ a2.length ≤ s.length := by
    rcases f1 with ⟨_, rfl, rfl, _⟩ | ⟨_, rfl, rfl, _⟩
    · exact ⟨tl_le 32 s, hd_le 32 s⟩
    · exact ⟨Nat.zero_le _, Nat.zero_le _⟩
  have HC2 := hide (fun W => rcut_any 32 r2 W (by omega))
  obtain ⟨b2, c2, o2, e2, f2⟩ := rct_form 32 r2
  rw [e2] at HC2
  have hb2 : b2.length ≤ s.length := by
    rcases f2 with ⟨_, rfl, rfl, _⟩ | ⟨_, rfl, rfl, _⟩
    · have := hd_le 32 r2; omega
    · exact Nat.zero_le _
  have HMt := hide (fun W => rMethod_any a2 W (by omega))
  have HPt := hide (fun W => rPath_any b2 W (by omega))
  have hop : opM s = if meth (hd 32 s) && pth (hd 32 (tl 32 s)) && tl 32 (tl 32 s) == vers then some ⟨hd 32 s, hd 32 (tl 32 s), 0⟩ else none := rfl
  have hkey : (opM s).isSome = (o1 && (o2 && (meth a2 && (pth b2 && (c2 == vers))))) ∧ ∀ f, opM s = some f → a2 = f.m ∧ b2 = f.p := by
    rcases f1 with ⟨rfl, rfl, rfl, g1⟩ | ⟨rfl, rfl, rfl, g1⟩
    · rcases f2 with ⟨rfl, rfl, rfl, g2⟩ | ⟨rfl, rfl, rfl, g2⟩
      · constructor
        · rw [hop, Bool.true_and, Bool.true_and, ← Bool.and_assoc]
          split
          · rename_i q; rw [q]; rfl
          · rename_i q; simp only [Bool.not_eq_true] at q; rw [q]; rfl
        · intro f hf
          rw [hop] at hf
          split at hf
          · cases hf; exact ⟨rfl, rfl⟩
          · cases hf
      · have := opM_none (s := s) (fun q => g2 q.2)
        rw [this]
        exact ⟨rfl, fun f hf => by cases hf⟩
    · have := opM_none (s := s) (fun q => g1 q.1)
      rw [this]
      exact ⟨rfl, fun f hf => by cases hf⟩
  obtain ⟨hO, hF⟩ := hkey
  have HF := hide hF
  rw [hO]
  have HV := hide (show (vers : Bs) = [72, 84, 84, 80, 47, 49, 46, 49] from rfl)
  clear hO hF hop e1 e2 f1 f2 hr2 hb2 hs hx
  generalize meth a2 = M at *
  generalize pth b2 = PP at *
  go_enter Tryz.func79, Tryz.ntmps79
  go_wp2_with fail
  refine (unhide HC1).mono ?_
  rintro e1 w1 ⟨rfl, b1⟩
  have O1 := hide (Only.of_below (P := fun k => k = P) b1)
  have X1 := hide ((b1.block _ (lt_of_row (unhide HX))).trans (unhide HX))
  clear b1
  go_wp2_with fail
  refine (unhide HC2 w1).mono ?_
  rintro e2 w2 ⟨rfl, b2'⟩
  have O2 := hide ((unhide O1).trans (Only.of_below (P := fun k => k = P) b2') (fun _ _ q => q))
  have X2 := hide ((b2'.block _ (lt_of_row (unhide X1))).trans (unhide X1))
  clear b2' O1 X1 HC1 HC2
  go_wp2_with fail
  refine (unhide HMt w2).mono ?_
  rintro e3 w3 ⟨rfl, hw3⟩
  rw [hw3]
  clear hw3
  go_wp2_with fail
  refine (unhide HPt w2).mono ?_
  rintro e3 w3 ⟨rfl, hw3⟩
  rw [hw3]
  clear hw3 HMt HPt
  have x2 := unhide X2
  have d0 : w2.cell? ⟨P, 0, none⟩ = some (S m) := cell_of_row w2 _ 0 _ 93 (0, 0) x2
  have z0 : w2.frozen? ⟨P, 0, none⟩ = false := frozen_of_heap x2 0
  have x3 : (w2.setCell ⟨P, 0, none⟩ (S a2)).heap[P]? = some (.cells (gcs a2 p st hv b n wh e) 93 (0, 0)) := heap_setCell_same w2 P 0 _ 93 _ x2
  have d1 : (w2.setCell ⟨P, 0, none⟩ (S a2)).cell? ⟨P, 1, none⟩ = some (S p) := cell_of_row _ _ 1 _ 93 (0, 0) x3
  have z1 : (w2.setCell ⟨P, 0, none⟩ (S a2)).frozen? ⟨P, 1, none⟩ = false := frozen_of_heap x3 1
  have X4 := hide (show ((w2.setCell ⟨P, 0, none⟩ (S a2)).setCell ⟨P, 1, none⟩ (S b2)).heap[P]? = some (.cells (gcs a2 b2 st hv b n wh e) 93 (0, 0)) from heap_setCell_same _ P 1 _ 93 _ x3)
  have O4 := hide (((unhide O2).trans (Only.setCell w2 ⟨P, 0, none⟩ (S a2)) (fun _ _ q => q)).trans (Only.setCell _ ⟨P, 1, none⟩ (S b2)) (fun _ _ q => q))
  have hPl := lt_of_row x2
  clear x2 x3
  cases o1 with
  | false =>
    go_wp2
    go_ret
    exact ⟨rfl, _, _, unhide X4, unhide O4, unhide HF⟩
  | true =>
    cases o2 with
    | false =>
      go_wp2
      go_ret
      exact ⟨rfl, _, _, unhide X4, unhide O4, unhide HF⟩
    | true =>
      cases M with
      | false =>
        go_wp2
        go_ret
        exact ⟨rfl, _, _, unhide X4, unhide O4, unhide HF⟩
      | true =>
        cases PP with
        | false =>
          go_wp2
          go_ret
          exact ⟨rfl, _, _, unhide X4, unhide O4, unhide HF⟩
        | true =>
          go_wp2
          go_ret
          exact ⟨rfl, _, _, unhide X4, unhide O4, unhide HF⟩
end Go.Proofs.YthlacailhfhjnaaGreatDoor
namespace Go.Proofs.YthlacailhfhjnaaGreatDoor
open Go.RowKit Go.Lib
/-- append([]Field(nil), l...): fields in a row of one's own. -/
theorem wp_appF {ops : Array Oper} {rest : List Oper} {o : Oper} {a : Act} {w : World} {Q : Exit → Act → World → Prop} (hgd : o.guard = none) (s x : Operand)
    (ho : o.op = .call { callee := .builtin .append, args := #[s, x], argTypes := #[22, 22] }) (hs : a.eval s = .slice none 0 0)
    (g n cap : Nat) (F : List Fl) (hx : a.eval x = .slice (some ⟨g, 0, none⟩) n cap) (hf : Fls w (some ⟨g, 0, none⟩) n F) (hlen : n ≤ 1000000000000)
    (h : ∀ p c w', w'.ownsRow 0 35 2 (.slice p n c) n (cellsF F) → Below w.heap.size w w' → (∀ k, (Value.slice p n c).ownBlock = some k → w.heap.size ≤ k) → wpList Tryz.prog ops Q rest (a.put o.dst (.slice p n c)) w') : wpList Tryz.prog ops Q (o :: rest) a w := by
  obtain ⟨i0, hi, hz0, hz1, hz2⟩ := info_parts info35
  refine wpList_append_own_at w hgd s x 22 ho 0 35 i0 _ 2 32 Tryz.underlying22 hi hz0 hz1 hz2 rfl (by decide) (.slice none 0 0) 0 [] hs (World.ownsRow_nil _ _ _ _) ⟨g, 0, none⟩ n cap (cellsF F) hx (by rw [cellsF_len, hf.1]) ?_ (cellsF_one F) (by unfold maxLen; omega) (by omega) (Nat.zero_le _) ?_
  · intro j v hv
    obtain ⟨k, hk, hc⟩ := cellsF_get _ _ _ hv
    rw [← hf.1] at hk
    obtain ⟨p, q, e, hcells⟩ := hf.2 (by omega)
    cases e
    have hadd : ∀ i, (⟨g, 0, none⟩ : Addr).add i = ⟨g, 0 + i, none⟩ := fun i => by unfold Addr.add; split <;> simp_all
    rcases hc with ⟨rfl, rfl⟩ | ⟨rfl, rfl⟩
    · rw [hadd]; exact (hcells k hk).1
    · rw [hadd, ← Nat.add_assoc]; exact (hcells k hk).2
  · intro v' w' ho' hg _ hat
    rw [Nat.zero_add, List.nil_append] at ho'
    obtain ⟨p, c, rfl⟩ := owns_form ho'
    refine h p c w' ho' ((Below.refl _ _).grown hg (Nat.le_refl _) (fun k hk => by cases hk)) (fun k hk => ?_)
    rcases hat with q | q
    · rw [q] at hk; cases hk
    · rw [hk] at q
      have := Option.some.inj q
      omega
/-- A list, turned round so far. -/
def rvd (l : List Fl) (i : Nat) : List Fl := l.reverse.take i ++ l.drop i
theorem rvd_len (l : List Fl) (i : Nat) (h : i ≤ l.length) : (rvd l i).length = l.length := by simp [rvd]; omega
theorem rvd_zero (l : List Fl) : rvd l 0 = l := by simp [rvd]
theorem rvd_all (l : List Fl) : rvd l l.length = l.reverse := by
  unfold rvd
  rw [List.take_of_length_le (by simp), List.drop_of_length_le (by simp), List.append_nil]
theorem rvd_set (l : List Fl) (i : Nat) (h : i < l.length) : (rvd l i).set i (l.getD (l.length - 1 - i) fl0) = rvd l (i + 1) := by
  unfold rvd
  have hl : (l.reverse.take i).length = i := by simp; omega
  have e : l.getD (l.length - 1 - i) fl0 = l.reverse[i]'(by simpa using h) := by
    rw [List.getElem_reverse]
    have : l.length - 1 - i < l.length := by omega
    simp [this]
  rw [e, List.set_append, if_neg (by omega), hl, Nat.sub_self, List.drop_eq_getElem_cons h, List.set_cons_zero, List.take_succ_eq_append_getElem (by simpa using h), List.append_assoc]
  rfl
theorem rvd_lens {l : List Fl} (h : Lens l) : Lens l.reverse := by
  intro j
  by_cases hj : j < l.length
  · have e : l.reverse.getD j fl0 = l.getD (l.length - 1 - j) fl0 := by
      have h1 : j < l.reverse.length := by simpa using hj
      have h2 : l.length - 1 - j < l.length := by omega
      simp [h2, hj]
    rw [e]
    exact h _
  · have e : l.reverse.getD j fl0 = fl0 := by simp [List.getD, show l.reverse[j]? = none from List.getElem?_eq_none (by simp; omega)]
    rw [e]
    exact ⟨Nat.zero_le _, Nat.zero_le _⟩
/-- What lies in a lent block: so many fields, and four spare ones. -/
theorem Blk.front {g : Nat} {l t : List Fl} {w : World} (h : Blk g (l ++ t) w) : Fls w (some ⟨g, 0, none⟩) l.length l := by
  have q := h.fls
  refine ⟨rfl, fun h0 => ?_⟩
  obtain ⟨p, o, e, hc⟩ := q.2 (by simp; omega)
  refine ⟨p, o, e, fun j hj => ?_⟩
  have := hc j (by simp; omega)
  have e2 : (l ++ t).getD j fl0 = l.getD j fl0 := by
    rw [List.getD_eq_getElem?_getD, List.getElem?_append_left hj, List.getD_eq_getElem?_getD]
  rw [e2] at this
  exact this
end Go.Proofs.YthlacailhfhjnaaGreatDoor
namespace Go.Proofs.YthlacailhfhjnaaGreatDoor
open Go.RowKit Go.Lib
def sp4 : List Fl := List.replicate 4 spare
theorem mid_sp (l : List Fl) : mid l 4 = l ++ sp4 := by simp [mid, sp4]
/-- What holds ahead of a turn: the two boxes, and the two lent blocks. -/
structure Prt (w : World) (P2 P3 g1 g2 : Nat) (mm mp mb : Bs) (st : Int) (ba : Bs) (lm la : List Fl) (wr : World) : Prop where
  x2 : ∃ a c, wr.heap[P2]? = some (.cells #[S mm, S mp, .slice a lm.length c, S mb] 24 (0, 0))
  x3 : ∃ a c, wr.heap[P3]? = some (.cells #[.int .i64 st, .slice a la.length c, S ba] 26 (0, 0))
  y1 : Blk g1 (lm ++ sp4) wr
  y2 : Blk g2 (la ++ sp4) wr
  ne : g1 ≠ g2
  ge : w.heap.size ≤ P2 ∧ w.heap.size ≤ P3 ∧ w.heap.size ≤ g1 ∧ w.heap.size ≤ g2
  bel : Below w.heap.size w wr
/-- What holds inside a turn: the boxes of x and y too, with rows of their own. -/
structure Pal (w : World) (P2 P3 g1 g2 X5 X8 : Nat) (mm mp mb : Bs) (st : Int) (ba : Bs) (lm la l1 l2 : List Fl) (v2 v3 V1 V2 : Value) (wr : World) : Prop where
  x2 : wr.heap[P2]? = some (.cells #[S mm, S mp, v2, S mb] 24 (0, 0))
  x3 : wr.heap[P3]? = some (.cells #[.int .i64 st, v3, S ba] 26 (0, 0))
  x5 : wr.heap[X5]? = some (.cells #[S mm, S mp, V1, S mb] 24 (0, 0))
  x8 : wr.heap[X8]? = some (.cells #[.int .i64 st, V2, S ba] 26 (0, 0))
  y1 : Blk g1 (l1 ++ sp4) wr
  y2 : Blk g2 (l2 ++ sp4) wr
  o1 : wr.ownsRow 0 35 2 V1 lm.length (cellsF lm)
  o2 : wr.ownsRow 0 35 2 V2 la.length (cellsF la)
  n1 : g1 ≠ g2
  n2 : P2 ≠ X5
  n3 : P3 ≠ X8
  n4 : V1.ownBlock ≠ some g1 ∧ V1.ownBlock ≠ some g2 ∧ V2.ownBlock ≠ some g1 ∧ V2.ownBlock ≠ some g2
  ge : w.heap.size ≤ P2 ∧ w.heap.size ≤ P3 ∧ w.heap.size ≤ g1 ∧ w.heap.size ≤ g2
  bel : Below w.heap.size w wr
variable {w wr w' : World} {P2 P3 g1 g2 X5 X8 : Nat} {mm mp mb ba : Bs} {st : Int} {lm la l1 l2 : List Fl} {v2 v3 V1 V2 : Value}
theorem Prt.below (h : Prt w P2 P3 g1 g2 mm mp mb st ba lm la wr) (hb : Below wr.heap.size wr w') : Prt w P2 P3 g1 g2 mm mp mb st ba lm la w' := by
  obtain ⟨a, c, x2⟩ := h.x2
  obtain ⟨a', c', x3⟩ := h.x3
  exact ⟨⟨a, c, (hb.block _ (lt_of_row x2)).trans x2⟩, ⟨a', c', (hb.block _ (lt_of_row x3)).trans x3⟩, h.y1.keep hb, h.y2.keep hb, h.ne, h.ge, h.bel.trans (hb.mono h.bel.size)⟩
theorem blk_ne {a b : Nat} {cs cs' : Array Value} {T T' : TypeId} (h1 : wr.heap[a]? = some (.cells cs T (0, 0))) (h2 : wr.heap[b]? = some (.cells cs' T' (0, 0))) (hT : T ≠ T') : a ≠ b := by
  intro e
  subst e
  have := h1.symm.trans h2
  simp only [Option.some.injEq, Obj.cells.injEq] at this
  exact hT this.2.1
theorem own_ne {a n m : Nat} {cs : Array Value} {T : TypeId} {v : Value} {xs : List Value} (h1 : wr.heap[a]? = some (.cells cs T (0, 0))) (h2 : wr.ownsRow 0 35 n v m xs) (hT : T ≠ 35) : ∀ k, v.ownBlock = some k → k ≠ a := by
  intro k hk
  obtain ⟨cs', q⟩ := owns_lt h2 k hk
  exact blk_ne q h1 (fun e => hT e.symm)
theorem Pal.below (h : Pal w P2 P3 g1 g2 X5 X8 mm mp mb st ba lm la l1 l2 v2 v3 V1 V2 wr) (hb : Below wr.heap.size wr w') : Pal w P2 P3 g1 g2 X5 X8 mm mp mb st ba lm la l1 l2 v2 v3 V1 V2 w' := by
  have ow : ∀ {V : Value} {l : List Fl}, wr.ownsRow 0 35 2 V l.length (cellsF l) → w'.ownsRow 0 35 2 V l.length (cellsF l) := fun q => owns_same q (fun k hk => by
    obtain ⟨cs, r⟩ := owns_lt q k hk
    exact hb.block k (lt_of_row r))
  exact ⟨(hb.block _ (lt_of_row h.x2)).trans h.x2, (hb.block _ (lt_of_row h.x3)).trans h.x3, (hb.block _ (lt_of_row h.x5)).trans h.x5, (hb.block _ (lt_of_row h.x8)).trans h.x8, h.y1.keep hb, h.y2.keep hb, ow h.o1, ow h.o2, h.n1, h.n2, h.n3, h.n4, h.ge, h.bel.trans (hb.mono h.bel.size)⟩
theorem blk_keep {g k : Nat} {l : List Fl} {v : Value} {j : Nat} (h : Blk g l wr) (hne : g ≠ k) : Blk g l (wr.setCell ⟨k, j, none⟩ v) := by
  unfold Blk
  rw [heap_setCell_other wr ⟨k, j, none⟩ g v hne]
  exact h
theorem Pal.set2 (h : Pal w P2 P3 g1 g2 X5 X8 mm mp mb st ba lm la l1 l2 v2 v3 V1 V2 wr) (v : Value) : Pal w P2 P3 g1 g2 X5 X8 mm mp mb st ba lm la l1 l2 v v3 V1 V2 (wr.setCell ⟨P2, 2, none⟩ v) := by
  have n23 := blk_ne h.x3 h.x2 (by decide)
  have n28 := blk_ne h.x8 h.x2 (by decide)
  have m1 := blk_ne h.y1 h.x2 (by decide)
  have m2 := blk_ne h.y2 h.x2 (by decide)
  refine ⟨heap_setCell_same wr P2 2 _ 24 v h.x2, (heap_setCell_other wr _ _ v n23).trans h.x3, (heap_setCell_other wr _ _ v h.n2.symm).trans h.x5, (heap_setCell_other wr _ _ v n28).trans h.x8, blk_keep h.y1 m1, blk_keep h.y2 m2, owns_same h.o1 (fun k hk => heap_setCell_other wr _ _ v (own_ne h.x2 h.o1 (by decide) k hk)), owns_same h.o2 (fun k hk => heap_setCell_other wr _ _ v (own_ne h.x2 h.o2 (by decide) k hk)), h.n1, h.n2, h.n3, h.n4, h.ge, h.bel.setCell h.ge.1 _⟩
theorem Pal.set3 (h : Pal w P2 P3 g1 g2 X5 X8 mm mp mb st ba lm la l1 l2 v2 v3 V1 V2 wr) (v : Value) : Pal w P2 P3 g1 g2 X5 X8 mm mp mb st ba lm la l1 l2 v2 v V1 V2 (wr.setCell ⟨P3, 1, none⟩ v) := by
  have n23 := blk_ne h.x2 h.x3 (by decide)
  have n28 := blk_ne h.x5 h.x3 (by decide)
  have m1 := blk_ne h.y1 h.x3 (by decide)
  have m2 := blk_ne h.y2 h.x3 (by decide)
  refine ⟨(heap_setCell_other wr _ _ v n23).trans h.x2, heap_setCell_same wr P3 1 _ 26 v h.x3, (heap_setCell_other wr _ _ v n28).trans h.x5, (heap_setCell_other wr _ _ v h.n3.symm).trans h.x8, blk_keep h.y1 m1, blk_keep h.y2 m2, owns_same h.o1 (fun k hk => heap_setCell_other wr _ _ v (own_ne h.x3 h.o1 (by decide) k hk)), owns_same h.o2 (fun k hk => heap_setCell_other wr _ _ v (own_ne h.x3 h.o2 (by decide) k hk)), h.n1, h.n2, h.n3, h.n4, h.ge, h.bel.setCell h.ge.2.1 _⟩
theorem two_other {g k i j : Nat} {v v' : Value} (hne : k ≠ g) : ((wr.setCell ⟨g, i, none⟩ v).setCell ⟨g, j, none⟩ v').heap[k]? = wr.heap[k]? :=
  (heap_setCell_other _ ⟨g, j, none⟩ k v' hne).trans (heap_setCell_other wr ⟨g, i, none⟩ k v hne)
theorem Pal.put1 (h : Pal w P2 P3 g1 g2 X5 X8 mm mp mb st ba lm la l1 l2 v2 v3 V1 V2 wr) (i : Nat) (hi : i < l1.length) (f : Fl) : Pal w P2 P3 g1 g2 X5 X8 mm mp mb st ba lm la (l1.set i f) l2 v2 v3 V1 V2 ((wr.setCell ⟨g1, i * 2, none⟩ (S f.1)).setCell ⟨g1, i * 2 + 1, none⟩ (S f.2)) := by
  have q := h.y1.set2 i (by simp; omega) f
  rw [List.set_append, if_pos hi] at q
  refine ⟨(two_other (blk_ne h.x2 h.y1 (by decide))).trans h.x2, (two_other (blk_ne h.x3 h.y1 (by decide))).trans h.x3, (two_other (blk_ne h.x5 h.y1 (by decide))).trans h.x5, (two_other (blk_ne h.x8 h.y1 (by decide))).trans h.x8, q, (two_other h.n1.symm).trans h.y2, owns_same h.o1 (fun k hk => two_other (fun e => h.n4.1 (by rw [hk, e]))), owns_same h.o2 (fun k hk => two_other (fun e => h.n4.2.2.1 (by rw [hk, e]))), h.n1, h.n2, h.n3, h.n4, h.ge, (h.bel.setCell h.ge.2.2.1 _).setCell h.ge.2.2.1 _⟩
theorem Pal.put2 (h : Pal w P2 P3 g1 g2 X5 X8 mm mp mb st ba lm la l1 l2 v2 v3 V1 V2 wr) (i : Nat) (hi : i < l2.length) (f : Fl) : Pal w P2 P3 g1 g2 X5 X8 mm mp mb st ba lm la l1 (l2.set i f) v2 v3 V1 V2 ((wr.setCell ⟨g2, i * 2, none⟩ (S f.1)).setCell ⟨g2, i * 2 + 1, none⟩ (S f.2)) := by
  have q := h.y2.set2 i (by simp; omega) f
  rw [List.set_append, if_pos hi] at q
  refine ⟨(two_other (blk_ne h.x2 h.y2 (by decide))).trans h.x2, (two_other (blk_ne h.x3 h.y2 (by decide))).trans h.x3, (two_other (blk_ne h.x5 h.y2 (by decide))).trans h.x5, (two_other (blk_ne h.x8 h.y2 (by decide))).trans h.x8, (two_other h.n1).trans h.y1, q, owns_same h.o1 (fun k hk => two_other (fun e => h.n4.2.1 (by rw [hk, e]))), owns_same h.o2 (fun k hk => two_other (fun e => h.n4.2.2.2 (by rw [hk, e]))), h.n1, h.n2, h.n3, h.n4, h.ge, (h.bel.setCell h.ge.2.2.2 _).setCell h.ge.2.2.2 _⟩
end Go.Proofs.YthlacailhfhjnaaGreatDoor
