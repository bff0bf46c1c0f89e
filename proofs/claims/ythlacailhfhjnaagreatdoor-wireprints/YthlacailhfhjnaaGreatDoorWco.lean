import Derived.Test.YthlacailhfhjnaaGreatDoorWcz
import Derived.BigRegion
namespace Go.Proofs.YthlacailhfhjnaaGreatDoor
open Go.RowKit Go.Lib
theorem step_err (op : Bs → Option Fst) (p : Ps) (b : UInt8) (h : (step op p b).2 ≠ 0) : (step op p b).1 = pov := by
  unfold step at h ⊢
  split
  · rename_i h1
    rw [if_pos h1] at h
    split
    · rename_i h2
      rw [if_pos h2] at h
      unfold judge at h ⊢
      split
      · rename_i h3
        rw [if_pos h3] at h
        unfold jFst at h ⊢
        split
        · rfl
        · rename_i f h4
          rw [h4] at h
          split
          · rename_i h5; simp [h5] at h
          · rfl
      · rename_i h3
        rw [if_neg h3] at h
        split
        · rename_i h4; rw [if_pos h4] at h; simp at h
        · rename_i h4
          rw [if_neg h4] at h
          unfold jHdr at h ⊢
          split
          · rfl
          · rename_i h5
            rw [if_neg h5] at h
            split
            · rename_i h6
              rw [if_pos h6] at h
              unfold jLen at h ⊢
              split
              · rfl
              · split
                · rfl
                · rename_i h7 h8; rw [if_neg h7, if_neg h8] at h; simp at h
            · rename_i h6
              rw [if_neg h6] at h
              split
              · rfl
              · rename_i h7; rw [if_neg h7] at h; simp at h
    · rename_i h2
      rw [if_neg h2] at h
      split
      · rfl
      · rename_i h3; rw [if_neg h3] at h; simp at h
  · rename_i h1
    rw [if_neg h1] at h
    split
    · rename_i h2; rw [if_pos h2] at h; simp at h
    · rename_i h2; rw [if_neg h2] at h; simp at h
theorem fd_one (q : Ps) (b : UInt8) (l : List Ms) : fd q [b] l = if (step opM q b).2 ≠ 0 then ((step opM q b).1, l, (step opM q b).2) else if (step opM q b).1.st = 3 then (p0, l ++ [(step opM q b).1.ms], 0) else ((step opM q b).1, l, 0) := by
  simp only [fd]
theorem fd_take {p q : Ps} {s : Bs} {l : List Ms} {k : Nat} (hk : k < s.length) (h : fd p (s.take k) [] = (q, l, 0)) : fd p (s.take (k + 1)) [] = fd q [s[k]] l := by
  rw [take_snoc s k hk, fd_append, h]
  simp
/-- What goes wrong goes wrong for all that follows. -/
theorem fd_stop {p : Ps} {s : Bs} {r : Ps × List Ms × Nat} (k : Nat) (h : fd p (s.take k) [] = r) (he : r.2.2 ≠ 0) : fd p s [] = r := by
  conv => lhs; rw [← List.take_append_drop k s, fd_append, h]
  rw [if_pos he]
theorem fd_rd (p : Ps) (s : Bs) (l : List Ms) (hp : p.st ≤ 3) (h : (fd p s l).2.2 = 0) : (fd p s l).1.rd ≤ p.rd + s.length ∧ (fd p s l).1.st ≤ 3 := by
  induction s generalizing p l with
  | nil => exact ⟨by simp [fd], hp⟩
  | cons b s ih =>
    simp only [fd] at h ⊢
    split
    · rename_i h1; rw [if_pos h1] at h; exact absurd h h1
    · rename_i h1
      rw [if_neg h1] at h
      have h1' : (step opM p b).2 = 0 := by simpa using h1
      have h2 := step_rd opM p b h1' hp
      split
      · rename_i h3
        rw [if_pos h3] at h
        have := ih p0 _ (by decide) h
        exact ⟨by have := this.1; simp [p0] at this ⊢; omega, this.2⟩
      · rename_i h3
        rw [if_neg h3] at h
        have := ih _ _ h2.2 h
        exact ⟨by simp only [List.length_cons]; omega, this.2⟩
def cellsM (l : List (Ms × Value)) : List Value := l.flatMap fun x => [S x.1.m, S x.1.p, x.2, S x.1.b]
theorem cellsM_append (a b : List (Ms × Value)) : cellsM (a ++ b) = cellsM a ++ cellsM b := by simp [cellsM]
/-- Messages in memory: their row, and the rows of their headers. -/
structure MAt (V : Value) (l : List (Ms × Value)) (M : Nat → Prop) (w : World) : Prop where
  row : w.ownsRow 0 24 4 V l.length (cellsM l)
  hrow : ∀ x ∈ l, w.ownsRow 0 35 2 x.2 x.1.hs.length (cellsF x.1.hs)
  inV : ∀ k, V.ownBlock = some k → M k
  inH : ∀ x ∈ l, ∀ k, x.2.ownBlock = some k → M k
  apart : l.Pairwise (fun x y => ∀ k, x.2.ownBlock = some k → y.2.ownBlock ≠ some k)
  lt : ∀ k, M k → k < w.heap.size
theorem MAt.nil (w : World) : MAt (.slice none 0 0) [] (fun _ => False) w := ⟨⟨rfl, .inl ⟨rfl, rfl⟩⟩, fun _ h => (nomatch h), fun _ h => (nomatch h), fun _ h => (nomatch h), List.Pairwise.nil, fun _ q => q.elim⟩
theorem MAt.keep {V : Value} {l : List (Ms × Value)} {M X : Nat → Prop} {w w' : World} (h : MAt V l M w) (ho : Only X w w') (hx : ∀ k, M k → ¬ X k) : MAt V l M w' := by
  refine ⟨owns_same h.row (fun k hk => ho.block k (h.lt k (h.inV k hk)) (hx k (h.inV k hk))), fun x hxl => owns_same (h.hrow x hxl) (fun k hk => ho.block k (h.lt k (h.inH x hxl k hk)) (hx k (h.inH x hxl k hk))), h.inV, h.inH, h.apart, fun k hk => Nat.lt_of_lt_of_le (h.lt k hk) ho.size⟩
/-- What holds between two bytes of Feed. -/
structure Fdj (R P : Nat) (p : Ps) (s : Bs) (O : Nat → Prop) (w : World) (k : Nat) (q : Ps) (l : List (Ms × Value)) (O' M : Nat → Prop) (V : Value) (wr : World) : Prop where
  fdq : fd p (s.take k) [] = (q, l.map (·.1), 0)
  ok : OkP q
  par : Par 47 P q O' wr
  mat : MAt V l M wr
  s1 : ∀ j, O' j → O j ∨ w.heap.size ≤ j
  s2 : ∀ j, M j → O j ∨ w.heap.size ≤ j
  s3 : ∀ j, O' j → ¬ M j
  s4 : ¬ O' R
  s5 : ¬ M R
  rb : wr.heap[R]? = some (.cells #[ptr P] 84 (0, 0))
  only : Only O w wr
  inR : O R
/-- What Feed leaves. -/
structure Fed (R : Nat) (r : Ps × List Ms × Nat) (O : Nat → Prop) (V : Value) (w w' : World) : Prop where
  ex : ∃ l O' M, r.2.1 = l.map (·.1) ∧ MAt V l M w' ∧ Rdr R r.1 O' w' ∧ (∀ j, O' j → O j ∨ w.heap.size ≤ j) ∧ (∀ j, M j → O j ∨ w.heap.size ≤ j) ∧ (∀ j, O' j → ¬ M j)
  only : Only O w w'
variable {R P k : Nat} {p q : Ps} {s : Bs} {O O' M : Nat → Prop} {w wr w2 : World} {l : List (Ms × Value)} {V : Value}
theorem Fdj.drew (h : Fdj R P p s O w k q l O' M V wr) : Fdj R P p s O w k q l O' M V wr.drew :=
  ⟨h.fdq, h.ok, h.par.below ((Below.refl _ _).drew), h.mat.keep (Only.drew (fun _ => False) wr) (fun _ _ q => q), h.s1, h.s2, h.s3, h.s4, h.s5, h.rb, h.only.trans (Only.drew (fun _ => False) wr) (fun _ _ q => q.elim), h.inR⟩
theorem Fdj.on (h : Fdj R P p s O w k q l O' M V wr) (ho : Only O' wr w2) : Only O w w2 :=
  h.only.trans ho (fun j hj q => by rcases h.s1 j q with r | r; exact r; omega)
theorem Fdj.rb2 (h : Fdj R P p s O w k q l O' M V wr) (ho : Only O' wr w2) : w2.heap[R]? = some (.cells #[ptr P] 84 (0, 0)) := (ho.block R (lt_of_row h.rb) h.s4).trans h.rb
theorem Fdj.mat2 (h : Fdj R P p s O w k q l O' M V wr) (ho : Only O' wr w2) : MAt V l M w2 := h.mat.keep ho (fun j hj q => h.s3 j q hj)
theorem Fdj.err (h : Fdj R P p s O w k q l O' M V wr) (hk : k < s.length) (ht : Tk 47 P (step opM q s[k]) O' wr w2) (hne : (step opM q s[k]).2 ≠ 0) : (fd p s []).2.2 = (step opM q s[k]).2 ∧ Fed R (fd p s []) O V w w2 := by
  have hf : fd p s [] = (pov, l.map (·.1), (step opM q s[k]).2) := by
    refine fd_stop (k + 1) ?_ hne
    rw [fd_take hk h.fdq, fd_one, if_pos hne, step_err opM q _ hne]
  rw [hf]
  refine ⟨rfl, ⟨⟨l, fun j => O' j ∨ j = R, M, rfl, h.mat2 ht.only, ⟨⟨P, h.rb2 ht.only, .inr ⟨rfl, ht.bad hne, .inl h.par.inP⟩⟩, .inr rfl, ?_⟩, ?_, h.s2, ?_⟩, h.on ht.only⟩⟩
  · intro j hj
    rcases hj with hj | rfl
    · exact Nat.lt_of_lt_of_le (h.par.lt j hj) ht.only.size
    · exact Nat.lt_of_lt_of_le (lt_of_row h.rb) ht.only.size
  · intro j hj
    rcases hj with hj | rfl
    · exact h.s1 j hj
    · exact .inl h.inR
  · intro j hj
    rcases hj with hj | rfl
    · exact h.s3 j hj
    · exact h.s5
theorem Fdj.go (h : Fdj R P p s O w k q l O' M V wr) (hk : k < s.length) (ht : Tk 47 P (step opM q s[k]) O' wr w2) (he : (step opM q s[k]).2 = 0) (h3 : (step opM q s[k]).1.st ≠ 3) : ∃ O2, Fdj R P p s O w (k + 1) (step opM q s[k]).1 l O2 M V w2 := by
  obtain ⟨O2, a1, a2⟩ := ht.ok he
  refine ⟨O2, ?_, step_ok opM q _ h.ok he h3, a1, h.mat2 ht.only, ?_, h.s2, ?_, ?_, h.s5, h.rb2 ht.only, h.on ht.only, h.inR⟩
  · rw [fd_take hk h.fdq, fd_one, if_neg (by simpa using he), if_neg h3]
  · intro j hj
    rcases a2 j hj with q | q
    · exact h.s1 j q
    · exact .inr (Nat.le_trans h.only.size q)
  · intro j hj hm
    rcases a2 j hj with q | q
    · exact h.s3 j q hm
    · have := h.mat.lt j hm; omega
  · intro hj
    rcases a2 R hj with q | q
    · exact h.s4 q
    · have := lt_of_row h.rb; omega
theorem Fdj.end (h : Fdj R P p s O w k q l O' M V wr) (hk : s.length ≤ k) : (fd p s []).2.2 = 0 ∧ Fed R (fd p s []) O V w wr := by
  have hf := h.fdq
  rw [List.take_of_length_le hk] at hf
  rw [hf]
  refine ⟨rfl, ⟨⟨l, fun j => O' j ∨ j = R, M, rfl, h.mat, ⟨⟨P, h.rb, .inl ⟨h.ok, O', h.par, fun j hj => .inl hj, h.s4⟩⟩, .inr rfl, ?_⟩, ?_, h.s2, ?_⟩, h.only⟩⟩
  · intro j hj
    rcases hj with hj | rfl
    · exact h.par.lt j hj
    · exact lt_of_row h.rb
  · intro j hj
    rcases hj with hj | rfl
    · exact h.s1 j hj
    · exact .inl h.inR
  · intro j hj
    rcases hj with hj | rfl
    · exact h.s3 j hj
    · exact h.s5
/-- A message that is whole: it is told, and the parser begins anew. -/
theorem Fdj.done (h : Fdj R P p s O w k q l O' M V wr) (hk : k < s.length) (ht : Tk 47 P (step opM q s[k]) O' wr w2) (he : (step opM q s[k]).2 = 0) (h3 : (step opM q s[k]).1.st = 3)
    {nx hv : Value} (hp : PAt 47 P (step opM q s[k]).1 nx hv w2) {O2 : Nat → Prop} (a2 : ∀ j, O2 j → O' j ∨ wr.heap.size ≤ j) (aP : O2 P) (aH : ∀ j, hv.ownBlock = some j → O2 j)
    {w3 w4 w5 : World} (b3 : Below w2.heap.size w2 w3) {V' : Value} (hV : w4.ownsRow 0 24 4 V' (l.length + 1) (cellsM l ++ [S (step opM q s[k]).1.fs.m, S (step opM q s[k]).1.fs.p, hv, S (step opM q s[k]).1.bd])) (o4 : Only (fun j => V.ownBlock = some j) w3 w4) (n4 : ∀ j, V'.ownBlock = some j → V.ownBlock = some j ∨ w3.heap.size ≤ j)
    {O5 : Nat → Prop} (p5 : Par 47 P p0 O5 w5) (s5 : ∀ j, O5 j → j = P ∨ w4.heap.size ≤ j) (o5 : Only (fun j => j = P) w4 w5) :
    ∃ l' M', Fdj R P p s O w (k + 1) p0 l' O5 M' V' w5 := by
  have hm2 := h.mat2 ht.only
  have hrb2 := h.rb2 ht.only
  have sz := ht.only.size
  have dM : ∀ j, O2 j → ¬ M j := fun j hj hm => by
    rcases a2 j hj with q | q
    · exact h.s3 j q hm
    · have := h.mat.lt j hm; omega
  have dR : ¬ O2 R := fun hj => by
    rcases a2 R hj with q | q
    · exact h.s4 q
    · have := lt_of_row h.rb; omega
  have hvlt : ∀ j, hv.ownBlock = some j → j < w2.heap.size := fun j hj => by
    obtain ⟨cs, q⟩ := owns_lt hp.hrow j hj; exact lt_of_row q
  have hVlt : ∀ j, V.ownBlock = some j → j < w2.heap.size := fun j hj => by
    obtain ⟨cs, q⟩ := owns_lt hm2.row j hj; exact lt_of_row q
  -- through w3, w4, w5
  have hp3 := hp.below b3
  have hPV : ¬ V.ownBlock = some P := fun e => dM P aP (h.mat.inV P e)
  have hp4 := hp3.keep o4 hPV (fun j hj e => dM j (aH j hj) (h.mat.inV j e))
  have hm3 := hm2.keep (Only.of_below (P := fun _ => False) b3) (fun _ _ q => q)
  have hne : ∀ x ∈ l, ∀ j, x.2.ownBlock = some j → ¬ V.ownBlock = some j := fun x hx j hj e => by
    obtain ⟨c1, q1⟩ := owns_lt (hm3.hrow x hx) j hj
    obtain ⟨c2, q2⟩ := owns_lt hm3.row j e
    rw [q1] at q2
    simp at q2
  have hr4 : ∀ x ∈ l, w4.ownsRow 0 35 2 x.2 x.1.hs.length (cellsF x.1.hs) := fun x hx => owns_same (hm3.hrow x hx) (fun j hj => o4.block j (hm3.lt j (hm3.inH x hx j hj)) (hne x hx j hj))
  have hPM : ∀ j, M j → j ≠ P := fun j hj e => dM P aP (by rw [← e]; exact hj)
  have hV5 : w5.ownsRow 0 24 4 V' (l.length + 1) (cellsM l ++ [S (step opM q s[k]).1.fs.m, S (step opM q s[k]).1.fs.p, hv, S (step opM q s[k]).1.bd]) := owns_same hV (fun j hj => by
    obtain ⟨cs, q⟩ := owns_lt hV j hj
    refine o5.block j (lt_of_row q) (fun e => ?_)
    rw [e, hp4.blk] at q
    simp at q)
  have hh5 : w5.ownsRow 0 35 2 hv (step opM q s[k]).1.hs.length (cellsF (step opM q s[k]).1.hs) := owns_same hp4.hrow (fun j hj => by
    obtain ⟨cs, q⟩ := owns_lt hp4.hrow j hj
    refine o5.block j (lt_of_row q) (fun e => ?_)
    rw [e, hp4.blk] at q
    simp at q)
  have hr5 : ∀ x ∈ l, w5.ownsRow 0 35 2 x.2 x.1.hs.length (cellsF x.1.hs) := fun x hx => owns_same (hr4 x hx) (fun j hj => by
    obtain ⟨cs, q⟩ := owns_lt (hr4 x hx) j hj
    exact o5.block j (lt_of_row q) (hPM j (h.mat.inH x hx j hj)))
  have z3 := b3.size
  have z4 := o4.size
  have z5 := o5.size
  have nV4 : ∀ j, V'.ownBlock = some j → j < w4.heap.size := fun j hj => by
    obtain ⟨cs, q⟩ := owns_lt hV j hj; exact lt_of_row q
  have z0 := h.only.size
  refine ⟨l ++ [((step opM q s[k]).1.ms, hv)], fun j => M j ∨ V'.ownBlock = some j ∨ hv.ownBlock = some j, ?_, okP0, p5, ⟨?_, ?_, fun j hj => .inr (.inl hj), ?_, ?_, ?_⟩, ?_, ?_, ?_, ?_, ?_, ?_, ?_, h.inR⟩
  · rw [fd_take hk h.fdq, fd_one, if_neg (by simpa using he), if_pos h3]
    simp
  · rw [List.length_append, cellsM_append]
    exact hV5
  · intro x hx
    rw [List.mem_append] at hx
    rcases hx with hx | hx
    · exact hr5 x hx
    · rw [List.mem_singleton] at hx
      subst hx
      exact hh5
  · intro x hx j hj
    rw [List.mem_append] at hx
    rcases hx with hx | hx
    · exact .inl (h.mat.inH x hx j hj)
    · rw [List.mem_singleton] at hx
      subst hx
      exact .inr (.inr hj)
  · rw [List.pairwise_append]
    refine ⟨h.mat.apart, List.pairwise_singleton _ _, fun x hx y hy j hj e => ?_⟩
    rw [List.mem_singleton] at hy
    subst hy
    exact dM j (aH j e) (h.mat.inH x hx j hj)
  · intro j hj
    rcases hj with hj | hj | hj
    · have := h.mat.lt j hj; omega
    · have := nV4 j hj; omega
    · have := hvlt j hj; omega
  · intro j hj
    rcases s5 j hj with rfl | q
    · rcases a2 _ aP with q | q
      · exact h.s1 _ q
      · exact .inr (by omega)
    · exact .inr (by omega)
  · intro j hj
    rcases hj with hj | hj | hj
    · exact h.s2 j hj
    · rcases n4 j hj with q | q
      · exact h.s2 j (h.mat.inV j q)
      · exact .inr (by omega)
    · rcases a2 j (aH j hj) with q | q
      · exact h.s1 j q
      · exact .inr (by omega)
  · intro j hj hm
    rcases s5 j hj with rfl | q
    · rcases hm with hm | hm | hm
      · exact dM _ aP hm
      · obtain ⟨cs, q⟩ := owns_lt hV _ hm
        rw [hp4.blk] at q
        simp at q
      · exact hp.ne hm
    · rcases hm with hm | hm | hm
      · have := h.mat.lt j hm; omega
      · have := nV4 j hm; omega
      · have := hvlt j hm; omega
  · intro hj
    rcases s5 R hj with e | q
    · exact dR (by rw [e]; exact aP)
    · have := lt_of_row h.rb; omega
  · intro hj
    rcases hj with hj | hj | hj
    · exact h.s5 hj
    · obtain ⟨cs, q⟩ := owns_lt hV R hj
      have e3 := (b3.block R (lt_of_row hrb2)).trans hrb2
      have hRV : ¬ V.ownBlock = some R := fun e => h.s5 (h.mat.inV R e)
      have e4 := (o4.block R (lt_of_row e3) hRV).trans e3
      rw [e4] at q
      simp at q
    · exact dR (aH R hj)
  · have e3 := (b3.block R (lt_of_row hrb2)).trans hrb2
    have hRV : ¬ V.ownBlock = some R := fun e => h.s5 (h.mat.inV R e)
    have e4 := (o4.block R (lt_of_row e3) hRV).trans e3
    refine (o5.block R (lt_of_row e4) (fun e => ?_)).trans e4
    exact dR (by rw [e]; exact aP)
  · refine (((h.on ht.only).trans (Only.of_below (P := fun _ => False) b3) (fun _ _ q => q.elim)).trans o4 (fun j hj e => ?_)).trans o5 (fun j hj e => ?_)
    · rcases h.s2 j (h.mat.inV j e) with q | q
      · exact q
      · omega
    · rw [e] at hj ⊢
      rcases a2 P aP with q | q
      · rcases h.s1 P q with r | r
        · exact r
        · omega
      · omega
set_option maxHeartbeats 8000000 in
set_option maxRecDepth 8000 in
theorem feed_over {R : Nat} {O : Nat → Prop} {w : World} (h : Rdr R pov O w) (s : Bs) :
    Calls Tryz.prog 21 #[ptr R, S s] w fun e w' => e = .returned (.tuple #[.slice none 0 0, .int .i64 54]) ∧ w' = w := by
  obtain ⟨⟨P, h1, h2⟩, h3, h4⟩ := h
  have c0 : w.cell? ⟨R, 0, none⟩ = some (ptr P) := cell_of_row w R 0 _ 84 (0, 0) h1
  have c3 : w.cell? ⟨P, 0, none⟩ = some (.int .i64 4) := by
    rcases h2 with ⟨q, _⟩ | ⟨_, q, _⟩
    · have := q.1; simp [pov] at this
    · exact cell_of_row w P 0 _ 91 (0, 0) q
  clear h1 h2 h3 h4
  go_enter Tryz.func21, Tryz.ntmps21
  go_wp2
  go_ret2
  exact ⟨rfl, rfl⟩
end Go.Proofs.YthlacailhfhjnaaGreatDoor
