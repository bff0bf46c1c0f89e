import Derived.Test.YtpelmacblglhoaaZzax
import Derived.Test.YtpelmacblglhoaaZzai
import Derived.Test.YtpelmacblglhoaaZzal
namespace Go.Proofs.Ytpelmacblglhoaa
open Go.RowKit
set_option maxHeartbeats 4000000
set_option maxRecDepth 8000
theorem map_at {α : Type} (f : α → Value) (l : List α) (z : α) (j : Nat) (h : j < l.length) : (l.map f)[j]? = some (f (l.getD j z)) := by
  rw [List.getElem?_map, List.getElem?_eq_getElem h, List.getD_eq_getElem?_getD, List.getElem?_eq_getElem h]
  rfl
section
variable {X : Nat} {r r' : Rd} {vl vi vp vl' vi' vp' : Value} {w w' : World}
theorem RAt.len (h : RAt X r vl vi vp w) : r.is.length = r.l.length ∧ r.p.length = r.l.length := by
  have h1 := h.i.1
  have h2 := h.p.1
  simp at h1 h2
  exact ⟨h1, h2⟩
/-- The three rows at one place. -/
theorem RAt.at (h : RAt X r vl vi vp w) (j : Nat) (hj : j < r.l.length) : ∃ gl cl gi ci gp cp, vl = .slice (some ⟨gl, 0, none⟩) r.l.length cl ∧ vi = .slice (some ⟨gi, 0, none⟩) r.l.length ci ∧ vp = .slice (some ⟨gp, 0, none⟩) r.l.length cp ∧
    w.cell? ⟨gl, j, none⟩ = some (S (r.l.getD j [])) ∧ w.cell? ⟨gi, j, none⟩ = some (.bool (r.is.getD j false)) ∧ w.cell? ⟨gp, j, none⟩ = some (S (r.p.getD j [])) ∧ w.frozen? ⟨gl, j, none⟩ = false ∧ w.frozen? ⟨gi, j, none⟩ = false ∧ w.frozen? ⟨gp, j, none⟩ = false := by
  obtain ⟨hi, hp⟩ := h.len
  obtain ⟨gl, cl, ul, e1, b1, _⟩ := owns_at h.l (by omega)
  obtain ⟨gi, ci, ui, e2, b2, _⟩ := owns_at h.i (by omega)
  obtain ⟨gp, cp, up, e3, b3, _⟩ := owns_at h.p (by omega)
  have q1 := h.l
  have q2 := h.i
  have q3 := h.p
  rw [e1] at q1
  rw [e2] at q2
  rw [e3] at q3
  exact ⟨gl, cl, gi, ci, gp, cp, e1, e2, e3, owns_cell q1 j _ (map_at S _ [] j hj), owns_cell q2 j _ (map_at Value.bool _ false j (by omega)), owns_cell q3 j _ (map_at S _ [] j (by omega)), frz b1 j, frz b2 j, frz b3 j⟩
def readR (r : Rd) (b : Int) : Bs := if r.dead then [] else if b < 0 then [] else if (r.l.length : Int) ≤ b then [] else if r.is.getD b.toNat false then r.p.getD b.toNat [] else r.l.getD b.toNat []
def reachr (r : Rd) (b : Int) : Int := if r.dead then 2 else if b < 0 then 80 else if (r.l.length : Int) ≤ b then 80 else 0
theorem rRead_any (h : RAt X r vl vi vp w) (b : Int) : Calls Try.prog 31 #[ptr X, I b] w fun e w' => e = .returned (.tuple #[S (readR r b), I (reachr r b)]) ∧ w' = w := by
  obtain ⟨c0, c1, c2, c3, c4, c5⟩ := h.c
  have hl := h.lt
  cases hd : r.dead with
  | true =>
    have e1 : readR r b = [] := by simp [readR, hd]
    have e2 : reachr r b = 2 := by simp [reachr, hd]
    rw [hd] at c4
    rw [e1, e2]
    clear h
    go_enter Try.func31, Try.ntmps31
    go_wp2
    go_ret2
    exact ⟨rfl, rfl⟩
  | false =>
    rw [hd] at c4
    by_cases h1 : b < 0
    · have e1 : readR r b = [] := by simp [readR, hd, h1]
      have e2 : reachr r b = 80 := by simp [reachr, hd, h1]
      rw [e1, e2]
      clear h
      go_enter Try.func31, Try.ntmps31
      go_wp2
      go_ret2
      exact ⟨rfl, rfl⟩
    · by_cases h2 : (r.l.length : Int) ≤ b
      · have e1 : readR r b = [] := by simp [readR, hd, h1, h2]
        have e2 : reachr r b = 80 := by simp [reachr, hd, h1, h2]
        rw [e1, e2]
        obtain ⟨p, cap, rfl⟩ := owns_form h.l
        clear h e1 e2
        generalize r.l.length = x at *
        go_enter Try.func31, Try.ntmps31
        go_wp2
        go_ret2
        exact ⟨rfl, rfl⟩
      · have e1 : readR r b = if r.is.getD b.toNat false then r.p.getD b.toNat [] else r.l.getD b.toNat [] := by simp only [readR, hd, Bool.false_eq_true, if_false, if_neg h1, if_neg h2]
        have e2 : reachr r b = 0 := by simp [reachr, hd, h1, h2]
        rw [e1, e2]
        clear e1 e2
        obtain ⟨j, rfl⟩ : ∃ j : Nat, b = (j : Int) := ⟨b.toNat, by omega⟩
        rw [Int.toNat_natCast]
        obtain ⟨gl, cl, gi, ci, gp, cp, rfl, rfl, rfl, t1, t2, t3, -, -, -⟩ := h.at j (by omega)
        have l1 := blk_lt t1
        have l2 := blk_lt t2
        have l3 := blk_lt t3
        clear h
        have h2' : (j : Int) < (r.l.length : Int) := by omega
        generalize r.l.length = x at *
        generalize r.l.getD j [] = y1 at *
        generalize r.p.getD j [] = y3 at *
        cases hb : r.is.getD j false with
        | true =>
          rw [hb] at t2
          rw [if_pos rfl]
          go_enter Try.func31, Try.ntmps31
          go_wp2
          go_ret2
          exact ⟨rfl, rfl⟩
        | false =>
          rw [hb] at t2
          rw [if_neg (by decide)]
          go_enter Try.func31, Try.ntmps31
          go_wp2
          go_ret2
          exact ⟨rfl, rfl⟩
def Rd.act (r : Rd) : Rd := if r.left = 1 then { r with left := 0, dead := true } else { r with left := max (r.left - 1) 0, done := r.done + 1 }
theorem rAct_any (h : RAt X r vl vi vp w) (hd : r.dead = false) (hf : 0 ≤ r.left ∧ r.left ≤ 9223372036854775807) (ha : 0 ≤ r.done ∧ r.done ≤ 1000000000000000000) : Calls Try.prog 56 #[ptr X] w fun e w' => e = .returned (.bool (decide (r.left = 1))) ∧ RAt X r.act vl vi vp w' ∧ Only (fun k => k = X) w w' := by
  obtain ⟨c0, c1, c2, c3, c4, c5⟩ := h.c
  have hl := h.lt
  have hz3 := frz h.blk 3
  have hz4 := frz h.blk 4
  have hz5 := frz h.blk 5
  unfold Rd.act
  rw [hd] at c4
  by_cases h1 : r.left = 1
  · have s1 := h.set (r' := { r with left := 0 }) 3 (I 0) rfl rfl rfl rfl
    have s2 := s1.set (r' := { r with left := 0, dead := true }) 4 (.bool true) rfl rfl rfl rfl
    have O := hide ((Only.setCell w ⟨X, 3, none⟩ (I 0)).put ⟨X, 4, none⟩ (.bool true) (.inl rfl))
    have HS := hide s2
    have z1 := s1.c
    have hz4' := frz s1.blk 4
    have hl1 := s1.lt
    obtain ⟨-, -, -, d3, d4, d5⟩ := z1
    have e4 := s2.c.2.2.2.2.1
    have hl2 := s2.lt
    simp only at d3 d4 d5 e4
    rw [hd] at d4
    rw [if_pos h1, h1]
    rw [h1] at c3
    clear h s1 s2
    go_enter Try.func56, Try.ntmps56
    go_wp2
    go_ret
    exact ⟨rfl, unhide HS, unhide O⟩
  · rw [if_neg h1]
    have eb : decide (r.left = 1) = false := decide_eq_false h1
    rw [eb]
    by_cases h2 : r.left = 0
    · have em : max (r.left - 1) 0 = r.left := by omega
      rw [em]
      have s1 := h.set (r' := { r with done := r.done + 1 }) 5 (I (r.done + 1)) rfl rfl rfl rfl
      have HS := hide s1
      have e4 := s1.c.2.2.2.2.1
      have hl2 := s1.lt
      simp only at e4
      rw [hd] at e4
      rw [h2] at c3
      obtain ⟨a1, a2⟩ := ha
      clear h s1
      go_enter Try.func56, Try.ntmps56
      go_wp2
      go_ret
      exact ⟨rfl, unhide HS, Only.setCell w ⟨X, _, none⟩ _⟩
    · have em : max (r.left - 1) 0 = r.left - 1 := by omega
      rw [em]
      have s1 := h.set (r' := { r with left := r.left - 1 }) 3 (I (r.left - 1)) rfl rfl rfl rfl
      have s2 := s1.set (r' := { r with left := r.left - 1, dead := false }) 4 (.bool false) rfl rfl rfl rfl
      have s3 := s2.set (r' := { r with left := r.left - 1, dead := false, done := r.done + 1 }) 5 (I (r.done + 1)) rfl rfl rfl rfl
      have O := hide (((Only.setCell w ⟨X, 3, none⟩ (I (r.left - 1))).put ⟨X, 4, none⟩ (.bool false) (.inl rfl)).put ⟨X, 5, none⟩ (I (r.done + 1)) (.inl rfl))
      have d3 := s1.c.2.2.2.1
      have d4 := s1.c.2.2.2.2.1
      have f4 := s2.c.2.2.2.2.1
      have f5 := s2.c.2.2.2.2.2
      have g4 := s3.c.2.2.2.2.1
      have hz4' := frz s1.blk 4
      have hz5' := frz s2.blk 5
      have hl1 := s1.lt
      have hl2 := s2.lt
      have hl3 := s3.lt
      simp only at d3 d4 f4 f5 g4
      rw [hd] at d4
      rw [show ({ r with left := r.left - 1, dead := false, done := r.done + 1 } : Rd) = { r with left := r.left - 1, done := r.done + 1 } by rw [← hd]] at s3
      have HS := hide s3
      obtain ⟨f1, f2⟩ := hf
      obtain ⟨a1, a2⟩ := ha
      have p1 : 0 < r.left := by omega
      have p2 : (r.left - 1 == 0) = false := by simpa using (show ¬ r.left - 1 = 0 by omega)
      clear h s1 s2 s3 em hd
      generalize r.left = lf at *
      generalize r.done = dn at *
      go_enter Try.func56, Try.ntmps56
      go_wp2
      go_ret
      first
        | exact ⟨rfl, unhide HS, unhide O⟩
        | (rw [p2]; exact ⟨rfl, unhide HS, unhide O⟩)
end
end Go.Proofs.Ytpelmacblglhoaa
namespace Go.Proofs.Ytpelmacblglhoaa
open Go.RowKit
set_option maxHeartbeats 4000000
set_option maxRecDepth 8000
theorem rows_ne {e1 n1 m1 e2 n2 m2 : Nat} {v1 v2 : Value} {x1 x2 : List Value} {w : World} (h1 : w.ownsRow 0 e1 n1 v1 m1 x1) (h2 : w.ownsRow 0 e2 n2 v2 m2 x2) (he : e1 ≠ e2) : ∀ k, v1.ownBlock = some k → v2.ownBlock ≠ some k := by
  intro k hk hk2
  obtain ⟨c1, q1⟩ := owns_lt h1 k hk
  obtain ⟨c2, q2⟩ := owns_lt h2 k hk2
  rw [q2] at q1
  have := Option.some.inj q1
  injection this with a b c
  exact he b.symm
section
variable {X : Nat} {r r' : Rd} {vl vi vp : Value} {w w' : World}
theorem map_set {α : Type} (f : α → Value) (l : List α) (j : Nat) (x : α) : (l.map f).set j (f x) = (l.set j x).map f := by rw [List.map_set]
theorem RAt.setI {g c n : Nat} (h : RAt X r vl (.slice (some ⟨g, 0, none⟩) n c) vp w) (hn : n = r.l.length) (j : Nat) (b : Bool) : RAt X { r with is := r.is.set j b } vl (.slice (some ⟨g, 0, none⟩) n c) vp (w.setCell ⟨g, j, none⟩ (.bool b)) := by
  subst hn
  have o := Only.setCell w ⟨g, j, none⟩ (.bool b)
  refine ⟨(o.block X h.lt (fun q => row47 h h.i (by decide) g rfl q.symm)).trans h.blk, owns_only h.l o (fun k hk q => rows_ne h.l h.i (by decide) k hk (by rw [show k = g from q]; rfl)), ?_, owns_only h.p o (fun k hk q => rows_ne h.p h.i (by decide) k hk (by rw [show k = g from q]; rfl)), h.ap⟩
  have := owns_set h.i j (.bool b)
  rw [map_set] at this
  exact this
theorem RAt.setP {g c n : Nat} (h : RAt X r vl vi (.slice (some ⟨g, 0, none⟩) n c) w) (hn : n = r.l.length) (j : Nat) (x : Bs) : RAt X { r with p := r.p.set j x } vl vi (.slice (some ⟨g, 0, none⟩) n c) (w.setCell ⟨g, j, none⟩ (S x)) := by
  subst hn
  have o := Only.setCell w ⟨g, j, none⟩ (S x)
  refine ⟨(o.block X h.lt (fun q => row47 h h.p (by decide) g rfl q.symm)).trans h.blk, owns_only h.l o (fun k hk q => h.ap k hk (by rw [show k = g from q]; rfl)), owns_only h.i o (fun k hk q => rows_ne h.i h.p (by decide) k hk (by rw [show k = g from q]; rfl)), ?_, h.ap⟩
  have := owns_set h.p j (S x)
  rw [map_set] at this
  exact this
theorem RAt.setL {g c n : Nat} (h : RAt X r (.slice (some ⟨g, 0, none⟩) n c) vi vp w) (hn : n = r.l.length) (j : Nat) (x : Bs) : RAt X { r with l := r.l.set j x } (.slice (some ⟨g, 0, none⟩) n c) vi vp (w.setCell ⟨g, j, none⟩ (S x)) := by
  subst hn
  have o := Only.setCell w ⟨g, j, none⟩ (S x)
  have e : (r.l.set j x).length = r.l.length := List.length_set
  refine ⟨(o.block X h.lt (fun q => row47 h h.l (by decide) g rfl q.symm)).trans h.blk, ?_, ?_, ?_, h.ap⟩
  · have := owns_set h.l j (S x)
    rw [map_set] at this
    show World.ownsRow _ 0 9 1 _ (r.l.set j x).length _
    rw [e]
    exact this
  · show World.ownsRow _ 0 4 1 _ (r.l.set j x).length _
    rw [e]
    exact owns_only h.i o (fun k hk q => rows_ne h.i h.l (by decide) k hk (by rw [show k = g from q]; rfl))
  · show World.ownsRow _ 0 9 1 _ (r.l.set j x).length _
    rw [e]
    exact owns_only h.p o (fun k hk q => h.ap k (by rw [show k = g from q]; rfl) hk)
def writer (r : Rd) (b : Int) (s : Bs) : Int := if s.length ≠ 512 then 81 else if r.dead then 2 else if b < 0 then 80 else if (r.l.length : Int) ≤ b then 80 else if r.left = 1 then 2 else 0
def Rd.write (r : Rd) (b : Int) (s : Bs) : Rd := if s.length ≠ 512 then r else if r.dead then r else if b < 0 then r else if (r.l.length : Int) ≤ b then r else if r.left = 1 then r.act else { r.act with is := r.act.is.set b.toNat true, p := r.act.p.set b.toNat s }
theorem act_rows (r : Rd) : r.act.l = r.l ∧ r.act.is = r.is ∧ r.act.p = r.p := by
  unfold Rd.act
  split <;> exact ⟨rfl, rfl, rfl⟩
theorem rWrite_any (h : RAt X r vl vi vp w) (hf : 0 ≤ r.left ∧ r.left ≤ 9223372036854775807) (ha : 0 ≤ r.done ∧ r.done ≤ 1000000000000000000) (b : Int) (s : Bs) : Calls Try.prog 32 #[ptr X, I b, S s] w fun e w' => e = .returned (I (writer r b s)) ∧ RAt X (r.write b s) vl vi vp w' ∧ Only (OfR X vl vi vp) w w' := by
  obtain ⟨c0, c1, c2, c3, c4, c5⟩ := h.c
  have hl := h.lt
  have H := hide h
  by_cases h0 : s.length = 512
  · have h0' : (s.length : Int) = 512 := by omega
    cases hd : r.dead with
    | true =>
      have e1 : writer r b s = 2 := by simp [writer, h0, hd]
      have e2 : r.write b s = r := by simp [Rd.write, h0, hd]
      rw [hd] at c4
      rw [e1, e2]
      clear h e1 e2
      go_enter Try.func32, Try.ntmps32
      go_wp2
      go_ret
      exact ⟨rfl, unhide H, Only.refl _ _⟩
    | false =>
      rw [hd] at c4
      by_cases h1 : b < 0
      · have e1 : writer r b s = 80 := by simp [writer, h0, hd, h1]
        have e2 : r.write b s = r := by simp [Rd.write, h0, hd, h1]
        rw [e1, e2]
        clear h e1 e2
        go_enter Try.func32, Try.ntmps32
        go_wp2
        go_ret
        exact ⟨rfl, unhide H, Only.refl _ _⟩
      · by_cases h2 : (r.l.length : Int) ≤ b
        · have e1 : writer r b s = 80 := by simp [writer, h0, hd, h1, h2]
          have e2 : r.write b s = r := by simp [Rd.write, h0, hd, h1, h2]
          rw [e1, e2]
          obtain ⟨p, cap, rfl⟩ := owns_form h.l
          clear h e1 e2
          generalize r.l.length = x at *
          go_enter Try.func32, Try.ntmps32
          go_wp2
          go_ret
          exact ⟨rfl, unhide H, Only.refl _ _⟩
        · obtain ⟨j, rfl⟩ : ∃ j : Nat, b = (j : Int) := ⟨b.toNat, by omega⟩
          have hj : j < r.l.length := by omega
          have HA := hide (rAct_any h hd hf ha)
          obtain ⟨ql, qi, qp⟩ := act_rows r
          obtain ⟨gl, cl, gi, ci, gp, cp, rfl, rfl, rfl, -⟩ := h.at j hj
          have h2' : (j : Int) < (r.l.length : Int) := by omega
          by_cases h3 : r.left = 1
          · have e1 : writer r (j : Int) s = 2 := by simp only [writer, h0, hd, h1, h2, h3]; simp
            have e2 : r.write (j : Int) s = r.act := by
              unfold Rd.write
              rw [if_neg (by simpa using h0), if_neg (by rw [hd]; decide), if_neg h1, if_neg h2, if_pos h3]
            rw [e1, e2]
            have et : decide (r.left = 1) = true := decide_eq_true h3
            rw [et] at HA
            clear h e1 e2 et H
            generalize r.l.length = x at *
            go_enter Try.func32, Try.ntmps32
            go_wp2_with fail
            refine (unhide HA).mono ?_
            rintro e w1 ⟨rfl, r1, o1⟩
            have HR := hide (And.intro r1 (o1.mono (Q := OfR X (.slice (some ⟨gl, 0, none⟩) x cl) (.slice (some ⟨gi, 0, none⟩) x ci) (.slice (some ⟨gp, 0, none⟩) x cp)) fun k _ q => Or.inl q))
            clear r1 o1
            go_wp2
            go_ret
            exact ⟨rfl, (unhide HR).1, (unhide HR).2⟩
          · have e1 : writer r (j : Int) s = 0 := by
              unfold writer
              rw [if_neg (by simpa using h0), if_neg (by rw [hd]; decide), if_neg h1, if_neg h2, if_neg h3]
            have e2 : r.write (j : Int) s = { r.act with is := r.act.is.set j true, p := r.act.p.set j s } := by
              unfold Rd.write
              rw [if_neg (by simpa using h0), if_neg (by rw [hd]; decide), if_neg h1, if_neg h2, if_neg h3, Int.toNat_natCast]
            rw [e1, e2]
            have et : decide (r.left = 1) = false := decide_eq_false h3
            rw [et] at HA
            have HQ := hide (And.intro ql (And.intro qi qp))
            clear h e1 e2 et H ql qi qp
            have HJ := hide hj
            go_enter Try.func32, Try.ntmps32
            go_wp2_with fail
            refine (unhide HA).mono ?_
            rintro e w1 ⟨rfl, r1, o1⟩
            obtain ⟨d0, d1, d2, -, -, -⟩ := r1.c
            have hl1 := r1.lt
            have hn : r.l.length = r.act.l.length := by rw [(unhide HQ).1]
            have s1 := r1.setI hn j true
            have s2 := s1.setP hn j s
            have a1 := r1.at j (by rw [(unhide HQ).1]; exact hj)
            obtain ⟨gl', cl', gi', ci', gp', cp', q1, q2, q3, -, t2, -, -, z2, -⟩ := a1
            rw [(unhide HQ).1] at q2
            cases q2
            have a2 := s1.at j (by rw [show ({ r.act with is := r.act.is.set j true } : Rd).l = r.act.l from rfl, (unhide HQ).1]; exact hj)
            obtain ⟨gl'', cl'', gi'', ci'', gp'', cp'', q1', q2', q3', -, -, t3, -, -, z3⟩ := a2
            simp only [(unhide HQ).1] at q3'
            cases q3'
            have d2' := s1.c.2.2.1
            have hl2 := s1.lt
            have l1 := blk_lt t2
            have l2 := blk_lt t3
            have HR := hide (And.intro s2 (((o1.mono (Q := OfR X (.slice (some ⟨gl, 0, none⟩) r.l.length cl) (.slice (some ⟨gi, 0, none⟩) r.l.length ci) (.slice (some ⟨gp, 0, none⟩) r.l.length cp)) fun k _ q => Or.inl q).put ⟨gi, j, none⟩ (.bool true) (.inl (.inr (.inr (.inl rfl))))).put ⟨gp, j, none⟩ (S s) (.inl (.inr (.inr (.inr rfl))))))
            clear r1 o1 s1 s2 q1 q3 q1' q2'
            go_wp2
            go_ret
            exact ⟨rfl, (unhide HR).1, (unhide HR).2⟩
  · have h0' : ¬ (s.length : Int) = 512 := by omega
    have e1 : writer r b s = 81 := by simp [writer, h0]
    have e2 : r.write b s = r := by simp [Rd.write, h0]
    rw [e1, e2]
    clear h e1 e2
    go_enter Try.func32, Try.ntmps32
    go_wp2
    go_ret
    exact ⟨rfl, unhide H, Only.refl _ _⟩
end
end Go.Proofs.Ytpelmacblglhoaa
