import Derived.Test.YtpelmacblglhoaaDtf
import Derived.Test.YtpelmacblglhoaaRgla
import Derived.Deep.CutRange
namespace Go.Proofs.Ytpelmacblglhoaa
open Go.RowKit
set_option maxHeartbeats 8000000
set_option maxRecDepth 8000
abbrev Pt := Bool × Int × Int
/-- Puts in memory. -/
def Pls (w : World) (a : Option Addr) (n : Nat) (l : List Pt) : Prop :=
  n = l.length ∧ (0 < n → ∃ p o, a = some ⟨p, o, none⟩ ∧ ∀ j, j < n → w.cell? ⟨p, o + j * 3, none⟩ = some (.bool (l.getD j (false, 0, 0)).1) ∧ w.cell? ⟨p, o + j * 3 + 1, none⟩ = some (I (l.getD j (false, 0, 0)).2.1) ∧ w.cell? ⟨p, o + j * 3 + 2, none⟩ = some (I (l.getD j (false, 0, 0)).2.2))
theorem Pls.at {w : World} {a : Option Addr} {n : Nat} {l : List Pt} (h : Pls w a n l) {j : Nat} (hj : j < n) : ∃ p o, a = some ⟨p, o, none⟩ ∧ p < w.heap.size ∧ w.cell? ⟨p, o + j * 3, none⟩ = some (.bool (l.getD j (false, 0, 0)).1) ∧ w.cell? ⟨p, o + j * 3 + 1, none⟩ = some (I (l.getD j (false, 0, 0)).2.1) ∧ w.cell? ⟨p, o + j * 3 + 2, none⟩ = some (I (l.getD j (false, 0, 0)).2.2) := by
  obtain ⟨p, o, e, hc⟩ := h.2 (by omega)
  exact ⟨p, o, e, blk_lt (hc j hj).1, hc j hj⟩
theorem Pls.below {w w' : World} {a : Option Addr} {n : Nat} {l : List Pt} (h : Pls w a n l) (hb : Below w.heap.size w w') : Pls w' a n l := by
  refine ⟨h.1, fun hn => ?_⟩
  obtain ⟨p, o, e, hc⟩ := h.2 hn
  exact ⟨p, o, e, fun j hj => ⟨(hb.cell (by exact blk_lt (hc j hj).1)).trans (hc j hj).1, (hb.cell (by exact blk_lt (hc j hj).2.1)).trans (hc j hj).2.1, (hb.cell (by exact blk_lt (hc j hj).2.2)).trans (hc j hj).2.2⟩⟩
/-- Numbers in memory. -/
def Ns (w : World) (a : Option Addr) (n : Nat) (l : List Int) : Prop :=
  n = l.length ∧ (0 < n → ∃ p o, a = some ⟨p, o, none⟩ ∧ ∀ j, j < n → w.cell? ⟨p, o + j, none⟩ = some (I (l.getD j 0)))
theorem Ns.at {w : World} {a : Option Addr} {n : Nat} {l : List Int} (h : Ns w a n l) {j : Nat} (hj : j < n) : ∃ p o, a = some ⟨p, o, none⟩ ∧ p < w.heap.size ∧ w.cell? ⟨p, o + j, none⟩ = some (I (l.getD j 0)) := by
  obtain ⟨p, o, e, hc⟩ := h.2 (by omega)
  exact ⟨p, o, e, blk_lt (hc j hj), hc j hj⟩
theorem Ns.below {w w' : World} {a : Option Addr} {n : Nat} {l : List Int} (h : Ns w a n l) (hb : Below w.heap.size w w') : Ns w' a n l := by
  refine ⟨h.1, fun hn => ?_⟩
  obtain ⟨p, o, e, hc⟩ := h.2 hn
  exact ⟨p, o, e, fun j hj => (hb.cell (by exact blk_lt (hc j hj))).trans (hc j hj)⟩
def nine : List Bs := List.replicate 9 zs
def none9 : List Bs := List.replicate 9 []
/-- When the disk dies. -/
def dv (dies : Int) (n : Nat) : Nat := if dies = 0 then 0 else 1 + pkv dies (n + 2)
/-- The disk that is armed. -/
def dsn (n : Nat) : Ds := { ws := [], last := nine, fuse := n, dead := false, acts := 0 }
theorem arm_new (l : List Bs) (n : Nat) : (Ds.new l).arm (n : Int) = { ws := [], last := l, fuse := n, dead := false, acts := 0 } := by
  unfold Ds.arm Ds.new
  rw [if_neg (by omega)]
  rfl
def hlf (k : Nat) : List Bs := List.replicate k zs ++ List.replicate (9 - k) []
theorem hlf_set (k : Nat) (hk : k < 9) : (hlf k).set k zs = hlf (k + 1) := by
  unfold hlf
  have e : 9 - k = (9 - (k + 1)) + 1 := by omega
  rw [List.set_append_right _ _ (by simp), e, List.replicate_succ, List.replicate_succ']
  simp
theorem hlf_all : hlf 9 = nine := by simp [hlf, nine]
def c62 : Array Value := (none9.map S).toArray
theorem lst_start {w w3 : World} {D n : Nat} {V : Value} (h3 : DAt D (dsn n) (.slice none 0 0) V w3) (n2 : ∀ k, Of D (.slice none 0 0) V k → w.heap.size ≤ k) (b : Below w.heap.size w w3) :
    Lst w D w3.heap.size (w3.heap.size + 1) (dsn n) (.slice none 0 0) V (hlf 0) none9 ((w3.alloc (.cells c62 62)).alloc (.cells c62 62)) := by
  have b1 := (Below.refl w3.heap.size w3).alloc (Nat.le_refl _) (.cells c62 62)
  have b2 := b1.alloc (by simp) (.cells c62 62)
  have x1 := heap_alloc_new w3 (.cells c62 62)
  have x2 := heap_alloc_new (w3.alloc (.cells c62 62)) (.cells c62 62)
  refine ⟨h3.below b2, ⟨?_, rfl⟩, ⟨?_, rfl⟩, by omega, n2, b.size, Nat.le_trans b.size (by omega), b.trans (b2.mono b.size)⟩
  · rw [heap_alloc_old _ _ (by simp), x1]
    rfl
  · rw [show (w3.alloc (.cells c62 62)).heap.size = w3.heap.size + 1 by simp] at x2
    exact x2
theorem lgc0 (n : Nat) (hn : n ≤ 1000000000000000) : Lgc 0 (dsn n) nine none9 ∧ Alv n 0 (dsn n) := by
  refine ⟨⟨⟨fun i j h1 h2 => by simp [dsn] at h2, fun x hx => by simp [dsn] at hx, fun x hx => ?_, by simp [dsn, nine], ?_⟩, ?_, rfl, by simp [nine], by simp [none9], fun m => ?_, rfl⟩, rfl, ?_, fun h => by omega⟩
  · rw [(List.mem_replicate.1 hx).2]; exact zs_len
  · show 0 ≤ (n : Int) ∧ (n : Int) ≤ 9223372036854775807
    omega
  · show [] = pnd none9 9
    unfold none9
    rw [pnd_none]
  · left
    unfold none9
    rw [List.getD_eq_getElem?_getD, List.getElem?_replicate]
    split <;> rfl
  · show (n : Int) = if n = 0 then 0 else (n : Int) - (0 : Nat)
    split <;> omega
theorem nine_cells {l : List Bs} (h : l.length = 9) : #[S (l.getD 0 []), S (l.getD 1 []), S (l.getD 2 []), S (l.getD 3 []), S (l.getD 4 []), S (l.getD 5 []), S (l.getD 6 []), S (l.getD 7 []), S (l.getD 8 [])] = (l.map S).toArray := by
  match l, h with
  | [a, b, c, d, e, f, g, h, i], _ => rfl
theorem pnd_get (now : List Bs) (m n : Nat) (h : m < n) (hm : now.getD m [] ≠ []) : (pnd now m).length < (pnd now n).length ∧ (pnd now n).getD (pnd now m).length (0, []) = (m, now.getD m []) := by
  induction n with
  | zero => omega
  | succ n ih =>
    by_cases q : m = n
    · subst q
      have e1 : pnd now (m + 1) = pnd now m ++ [(m, now.getD m [])] := by show (if _ then _ else _) = _; rw [if_neg hm]
      rw [e1]
      simp
    · obtain ⟨h1, h2⟩ := ih (by omega)
      by_cases r : now.getD n [] = []
      · have e1 : pnd now (n + 1) = pnd now n := by show (if _ then _ else _) = _; rw [if_pos r]
        rw [e1]
        exact ⟨h1, h2⟩
      · have e1 : pnd now (n + 1) = pnd now n ++ [(n, now.getD n [])] := by show (if _ then _ else _) = _; rw [if_neg r]
        rw [e1]
        refine ⟨by simp; omega, ?_⟩
        rw [List.getD_eq_getElem?_getD, List.getElem?_append_left h1, ← List.getD_eq_getElem?_getD, h2]
def cellsK (l : List Kp) : List Value := l.flatMap fun x => [I x.1, I x.2]
theorem cellsK_append (a b : List Kp) : cellsK (a ++ b) = cellsK a ++ cellsK b := by simp [cellsK]
/-- All that is at hand while the law goes over what is pending. -/
structure Tl (w : World) (D A N T : Nat) (d : Ds) (vw vl vp vk : Value) (la nw wt : List Bs) (ks : List Kp) (W : World) : Prop where
  l : Lst w D A N d vw vl la nw W
  t : Arr T wt W
  p : W.ownsRow 0 69 2 vp (pnd nw 9).length (cellsW (pnd nw 9))
  k : W.ownsRow 0 71 2 vk ks.length (cellsK ks)
  nk : ∀ g, vk.ownBlock = some g → w.heap.size ≤ g
  ht : w.heap.size ≤ T
  nT : T ≠ A ∧ T ≠ N
section
variable {w W W' : World} {D A N T : Nat} {d : Ds} {vw vl vp vk vk' : Value} {la nw wt : List Bs} {ks : List Kp}
theorem Tl.below (h : Tl w D A N T d vw vl vp vk la nw wt ks W) (b : Below W.heap.size W W') : Tl w D A N T d vw vl vp vk la nw wt ks W' :=
  ⟨h.l.below b, h.t.below b, owns_below h.p b, owns_below h.k b, h.nk, h.ht, h.nT⟩
theorem row_ne {t a m : Nat} {v : Value} {xs : List Bs} {ys : List Value} (hx : Arr T xs W) (ho : W.ownsRow 0 t a v m ys) (ht : t ≠ 62) : ∀ k, v.ownBlock = some k → ¬ k = T := by
  intro k hk q
  obtain ⟨c1, q1⟩ := owns_lt ho k hk
  rw [q, hx.blk] at q1
  have := Option.some.inj q1
  injection this with e1 e2 e3
  exact ht e2.symm
theorem Tl.setT (h : Tl w D A N T d vw vl vp vk la nw wt ks W) (k : Nat) (x : Bs) : Tl w D A N T d vw vl vp vk la nw (wt.set k x) ks (W.setCell ⟨T, k, none⟩ (S x)) := by
  have O := Only.setCell W ⟨T, k, none⟩ (S x)
  refine ⟨⟨h.l.dat.only O (fun i hi q => h.l.nd h.t (by have q' : i = T := q; rw [← q']; exact hi)), h.l.a.other T k _ h.nT.1, h.l.n.other T k _ h.nT.2, h.l.ne, h.l.new, h.l.ha, h.l.hn, h.l.bel.setCell (p := ⟨T, k, none⟩) h.ht _⟩, h.t.set k x, owns_only h.p O (row_ne h.t h.p (by decide)), owns_only h.k O (row_ne h.t h.k (by decide)), h.nk, h.ht, h.nT⟩
theorem Tl.app (h : Tl w D A N T d vw vl vp vk la nw wt ks W) {ks' : List Kp} (hk : W'.ownsRow 0 71 2 vk' ks'.length (cellsK ks')) (o : Only (fun i => vk.ownBlock = some i) W W') (hn : ∀ g, vk'.ownBlock = some g → vk.ownBlock = some g ∨ W.heap.size ≤ g) : Tl w D A N T d vw vl vp vk' la nw wt ks' W' := by
  have k71 : ∀ g, vk.ownBlock = some g → ∃ cs, W.heap[g]? = some (.cells cs 71 (0, 0)) := owns_lt h.k
  have ar : ∀ {X : Nat} {l : List Bs}, Arr X l W → ¬ vk.ownBlock = some X := fun hx q => by
    obtain ⟨cs, r⟩ := k71 _ q
    rw [hx.blk] at r
    have := Option.some.inj r
    injection this with e1 e2 e3
    cases e2
  have rw_ : ∀ {t a m : Nat} {v : Value} {ys : List Value}, W.ownsRow 0 t a v m ys → t ≠ 71 → ∀ i, v.ownBlock = some i → ¬ vk.ownBlock = some i := by
    intro t a m v ys ho ht i hi q
    obtain ⟨c1, q1⟩ := owns_lt ho i hi
    obtain ⟨c2, q2⟩ := k71 i q
    rw [q2] at q1
    have := Option.some.inj q1
    injection this with e1 e2 e3
    exact ht e2.symm
  have od : ∀ i, Of D vw vl i → ¬ vk.ownBlock = some i := by
    rintro i (q | q | q) r
    · obtain ⟨c2, q2⟩ := k71 i r
      rw [q, h.l.dat.blk] at q2
      have := Option.some.inj q2
      injection this with e1 e2 e3
      cases e2
    · exact rw_ h.l.dat.ws (by decide) i q r
    · exact rw_ h.l.dat.ls (by decide) i q r
  refine ⟨⟨h.l.dat.only o od, h.l.a.only o (ar h.l.a), h.l.n.only o (ar h.l.n), h.l.ne, h.l.new, h.l.ha, h.l.hn, o.below h.l.bel h.l.bel.size h.nk⟩, h.t.only o (ar h.t), owns_only h.p o (rw_ h.p (by decide)), hk, fun g hg => ?_, h.ht, h.nT⟩
  rcases hn g hg with q | q
  · exact h.nk g q
  · exact Nat.le_trans h.l.bel.size q
theorem tl_start {w7 : World} {VP : Value} (hl : Lst w D A N d vw vl la nw w7) (r7 : w7.ownsRow 0 69 2 VP (pnd nw 9).length (cellsW (pnd nw 9))) (h9 : la.length = 9) :
    Tl w D A N w7.heap.size d vw vl VP (.slice none 0 0) la nw la [] (w7.alloc (.cells (la.map S).toArray 62)) := by
  have b := (Below.refl w7.heap.size w7).alloc (Nat.le_refl _) (.cells (la.map S).toArray 62)
  refine ⟨hl.below b, ⟨heap_alloc_new _ _, h9⟩, owns_below r7 b, owns_nil _ _ _, (fun g hg => by cases hg), hl.bel.size, ?_, ?_⟩
  · have := hl.a.lt; omega
  · have := hl.n.lt; omega
/-- keeps = append(keeps, k). -/
theorem wp_pushK {ops : Array Oper} {rest : List Oper} {o : Oper} {ac : Act} {Q : Exit → Act → World → Prop} {x : Kp} (hgd : o.guard = none) (p q : Operand) (ho : o.op = .call { callee := .builtin .append, args := #[p, q], argTypes := #[33, 33] })
    (hp : ac.eval p = vk) (hq : ac.eval q = .slice (some ⟨W.heap.size, 0, none⟩) 1 1) (h : Tl w D A N T d vw vl vp vk la nw wt ks W) (hs : ks.length ≤ 1000)
    (hn : ∀ V' w', (∃ p n c, V' = .slice p n c) → Tl w D A N T d vw vl vp V' la nw wt (ks ++ [x]) w' → wpList Try.prog ops Q rest (ac.put o.dst V') w') : wpList Try.prog ops Q (o :: rest) ac (W.alloc (.cells #[I x.1, I x.2] 71)) := by
  refine push_own 33 71 _ 2 16 Try.underlying33 info71 rfl (by decide) hgd p q ho vk ks.length (cellsK ks) hp W h.k [I x.1, I x.2] rfl (by intro u hu; simp at hu; rcases hu with rfl | rfl <;> rfl) hq (by omega) (by omega) ?_
  intro pp cap w' r1 r2 r3
  exact hn _ w' ⟨_, _, _, rfl⟩ (h.app (by rw [List.length_append, cellsK_append]; exact r1) r2 r3)
end

theorem crash_law {k : Nat} {d : Ds} {la nw : List Bs} (ss : List Int) (h : Lgc k d la nw) :
    stps (List.replicate d.ws.length none) (ks ss (min (pnd nw 9).length ss.length)) = some (stv (pnd nw 9).length ss (min (pnd nw 9).length ss.length)) ∧
    crashv d (ks ss (min (pnd nw 9).length ss.length)) = 0 ∧
    d.crash (ks ss (min (pnd nw 9).length ss.length)) = { ws := [], last := wnt la nw ss 9, fuse := 0, dead := false, acts := k } ∧
    Ok { ws := [], last := wnt la nw ss 9, fuse := 0, dead := false, acts := k } ∧ (wnt la nw ss 9).length = 9 := by
  have e0 := stps_ks (pnd nw 9).length ss (min (pnd nw 9).length ss.length) (Nat.min_le_left _ _)
  rw [← h.ws] at e0 ⊢
  have hsz : ∀ m, m < 9 → (la.getD m []).length = 512 := fun m hm => by
    rw [← h.ls]
    exact h.ok.sz _ (mem_getD (by rw [h.ls, h.la9]; exact hm))
  have e1 : crs la (pnd nw 9) (stv (pnd nw 9).length ss (min (pnd nw 9).length ss.length)) (pnd nw 9).length = wnt la nw ss 9 := by
    refine crs_wnt la nw ss _ 9 hsz (by rw [h.la9]; exact Nat.le_refl _) (fun j hj => ?_) 9 (Nat.le_refl _)
    rw [stv_at _ _ _ _ hj]
    by_cases q : j < ss.length
    · rw [if_pos q, if_pos (by omega)]
    · rw [if_neg q, if_neg (by omega)]
  have e2 : (wnt la nw ss 9).length = 9 := by rw [← e1, crs_len, h.la9]
  refine ⟨e0, ?_, ?_, ⟨fun i j h1 h2 => by simp at h2, fun x hx => by simp at hx, fun x hx => ?_, ?_, by simp⟩, e2⟩
  · unfold crashv
    rw [e0]
    rfl
  · unfold Ds.crash
    rw [e0]
    simp only
    rw [h.acts, h.ls, ← e1, h.ws]
  · have hx' : x ∈ wnt la nw ss 9 := hx
    rw [← e1] at hx'
    refine crs_sz _ (fun y hy => ?_) (fun y hy => ?_) _ (Nat.le_refl _) x hx'
    · rw [← h.ls] at hy
      exact h.ok.sz y hy
    · rw [← h.ws] at hy
      rw [← h.ls]
      exact h.ok.lt y hy
  · show 8 ≤ (wnt la nw ss 9).length ∧ (wnt la nw ss 9).length ≤ 4096
    rw [e2]
    omega
theorem stv_small (n : Nat) (ss : List Int) (q i : Nat) : ((stv n ss q).getD i none).getD 0 < 256 := by
  by_cases h : i < n
  · rw [stv_at _ _ _ _ h]
    split
    · exact pkv_lt _ 256 (by omega)
    · simp
  · rw [List.getD_eq_getElem?_getD, List.getElem?_eq_none (by rw [stv_len]; omega)]
    simp
theorem cellsK_at (l : List Kp) (j : Nat) (hj : j < l.length) : (cellsK l)[j * 2]? = some (I (l.getD j (0, 0)).1) ∧ (cellsK l)[j * 2 + 1]? = some (I (l.getD j (0, 0)).2) := by
  induction l generalizing j with
  | nil => simp at hj
  | cons f l ih =>
    have e : cellsK (f :: l) = I f.1 :: I f.2 :: cellsK l := rfl
    rw [e]
    cases j with
    | zero => exact ⟨rfl, rfl⟩
    | succ j =>
      have := ih j (by simpa using hj)
      rw [show (j + 1) * 2 = j * 2 + 1 + 1 by omega]
      simpa using this
theorem kls_of {w : World} {v : Value} {l : List Kp} (h : w.ownsRow 0 71 2 v l.length (cellsK l)) : ∃ p cap, v = .slice p l.length cap ∧ Kls w p l.length l := by
  rcases h.2 with ⟨e, q⟩ | ⟨g, cap, cur, e1, e2⟩
  · exact ⟨none, 0, by rw [e, q], ⟨rfl, fun h => by omega⟩⟩
  · refine ⟨_, cap, e1, ⟨rfl, fun _ => ⟨g, 0, rfl, fun j hj => ?_⟩⟩⟩
    subst e1
    have z := cellsK_at l j hj
    rw [Nat.zero_add]
    exact ⟨owns_cell h _ _ z.1, owns_cell h _ _ z.2⟩
theorem load_zero {k : Nat} {d : Ds} {la nw : List Bs} (h : Lgc k d la nw) : loadv la = 0 := by
  unfold loadv
  rw [if_neg (by rw [h.la9]; decide), if_neg]
  have : allR la = true := by
    unfold allR
    rw [List.all_eq_true]
    intro x hx
    rw [← h.ls] at hx
    simpa using h.ok.sz x hx
  rw [this]
  decide
/-- What is at hand when the law reads all. -/
structure Fin (w : World) (D C A T : Nat) (d' : Ds) (vw vl vc : Value) (la wt : List Bs) (W : World) : Prop where
  dat : DAt D d' vw vl W
  c : DAt C (Ds.new la) (.slice none 0 0) vc W
  a : Arr A la W
  t : Arr T wt W
  bel : Below w.heap.size w W
theorem Fin.below {w W W' : World} {D C A T : Nat} {d' : Ds} {vw vl vc : Value} {la wt : List Bs} (h : Fin w D C A T d' vw vl vc la wt W) (b : Below W.heap.size W W') : Fin w D C A T d' vw vl vc la wt W' :=
  ⟨h.dat.below b, h.c.below b, h.a.below b, h.t.below b, h.bel.trans (b.mono h.bel.size)⟩
theorem fin_start {w W0 W W' : World} {D C A N T : Nat} {d d' : Ds} {vw vw' vl vp vk vc : Value} {la nw wt : List Bs} {ks : List Kp} (h : Tl w D A N T d vw vl vp vk la nw wt ks W0) (b : Below W0.heap.size W0 W) (hc : DAt C (Ds.new la) (.slice none 0 0) vc W) (nc : ∀ k, Of C (.slice none 0 0) vc k → W0.heap.size ≤ k)
    (h2 : DAt D d' vw' vl W') (o : Only (fun k => k = D ∨ vl.ownBlock = some k) W W') : Fin w D C A T d' vw' vl vc la wt W' := by
  have old : ∀ k, (k = D ∨ vl.ownBlock = some k) → k < W0.heap.size := fun k q => h.l.dat.old k (q.imp id (fun r => Or.inr r))
  have hb := h.below b
  refine ⟨h2, hc.only o (fun k hk q => ?_), hb.l.a.only o (fun q => hb.l.nd hb.l.a (q.imp id (fun r => Or.inr r))), hb.t.only o (fun q => hb.l.nd hb.t (q.imp id (fun r => Or.inr r))), o.below hb.l.bel hb.l.bel.size (fun k q => h.l.new k (q.imp id (fun r => Or.inr r)))⟩
  have := nc k hk
  have := old k q
  omega
theorem read_plain {d : Ds} (hw : d.ws = []) (hd : d.dead = false) (m : Nat) (hm : m < d.last.length) : readS d (m : Int) = d.last.getD m [] ∧ reachv d (m : Int) = 0 := by
  have e : reachv d (m : Int) = 0 := by
    unfold reachv
    rw [hd]
    simp
    omega
  refine ⟨?_, e⟩
  unfold readS
  rw [if_pos e]
  unfold cur
  rw [hw]
  rfl
theorem ok_new {k : Nat} {d : Ds} {la nw : List Bs} (h : Lgc k d la nw) : Ok (Ds.new la) := by
  refine ⟨fun i j h1 h2 => by simp [Ds.new] at h2, fun x hx => by simp [Ds.new] at hx, fun x hx => ?_, ?_, by simp [Ds.new]⟩
  · have hx' : x ∈ la := hx
    rw [← h.ls] at hx'
    exact h.ok.sz x hx'
  · show 8 ≤ la.length ∧ la.length ≤ 4096
    rw [h.la9]
    omega
end Go.Proofs.Ytpelmacblglhoaa
