import Derived.Test.YtpelmacblglhoaaDuh
import Derived.Test.YtpelmacblglhoaaZzbb
namespace Go.Proofs.Ytpelmacblglhoaa
open Go.RowKit
set_option maxHeartbeats 4000000
set_option maxRecDepth 8000
/-- A disk, and the document's, and where they lie. -/
structure Sd where
  D : Nat
  X : Nat
  vw : Value
  vl : Value
  ul : Value
  ui : Value
  up : Value
  d : Ds
  r : Rd
structure SOk (K : Nat) (tag : Nat → Tg) (i : Nat) (s : Sd) (w : World) : Prop where
  dat : DAt s.D s.d s.vw s.vl w
  rat : RAt s.X s.r s.ul s.ui s.up w
  ok : Ok s.d
  rel : Rel s.d s.r
  ac : 0 ≤ s.d.acts ∧ s.d.acts ≤ K
  td : ∀ k, Of s.D s.vw s.vl k → tag k = (1, i)
  tr : ∀ k, OfR s.X s.ul s.ui s.up k → tag k = (2, i)
def cellsS (l : List Sd) : List Value := l.flatMap fun s => [ptr s.D, ptr s.X]
theorem cellsS_len (l : List Sd) : (cellsS l).length = l.length * 2 := by
  unfold cellsS
  induction l with
  | nil => rfl
  | cons f l ih => rw [List.flatMap_cons, List.length_append, ih]; simp; omega
theorem cellsS_append (a b : List Sd) : cellsS (a ++ b) = cellsS a ++ cellsS b := by simp [cellsS]
theorem cellsS_at (l : List Sd) (j : Nat) (x : Sd) (hj : l[j]? = some x) : (cellsS l)[j * 2]? = some (ptr x.D) ∧ (cellsS l)[j * 2 + 1]? = some (ptr x.X) := by
  induction l generalizing j with
  | nil => simp at hj
  | cons f l ih =>
    have e : cellsS (f :: l) = ptr f.D :: ptr f.X :: cellsS l := rfl
    rw [e]
    cases j with
    | zero =>
      simp at hj
      subst hj
      exact ⟨rfl, rfl⟩
    | succ j =>
      have := ih j (by simpa using hj)
      rw [show (j + 1) * 2 = j * 2 + 1 + 1 by omega, show j * 2 + 1 + 1 + 1 = (j * 2 + 1) + 1 + 1 by omega]
      simpa using this
theorem cellsS_set (l : List Sd) (i : Nat) (x x' : Sd) (hx : l[i]? = some x) (h1 : x'.D = x.D) (h2 : x'.X = x.X) : cellsS (l.set i x') = cellsS l := by
  induction l generalizing i with
  | nil => rfl
  | cons f l ih =>
    cases i with
    | zero =>
      simp at hx
      subst hx
      show ptr x'.D :: ptr x'.X :: cellsS l = ptr f.D :: ptr f.X :: cellsS l
      rw [h1, h2]
    | succ i =>
      show ptr f.D :: ptr f.X :: cellsS (l.set i x') = ptr f.D :: ptr f.X :: cellsS l
      rw [ih i (by simpa using hx)]
/-- What the law's world has. -/
structure Ws where
  tag : Nat → Tg
  sd : List Sd
  vl : Value
  N1 : Nat
  f1 : Nat
  vs1 : Nat → Value
  ws1 : Nat → Value
  L1 : Nat → List Bs
  pf1 : Option Addr
  pw1 : Option Addr
  pd1 : Option Addr
  cf1 : Nat
  cw1 : Nat
  cd1 : Nat
  Dn1 : List Value
  N2 : Nat
  f2 : Nat
  vs2 : Nat → Value
  ws2 : Nat → Value
  L2 : Nat → List Wr
  pf2 : Option Addr
  pw2 : Option Addr
  pd2 : Option Addr
  cf2 : Nat
  cw2 : Nat
  cd2 : Nat
  Dn2 : List Value
  vh : Value
  hn : Nat
  hs : List Value
def Ws.cs (s : Ws) : Array Value := #[s.vl, .slice s.pf1 s.N1 s.cf1, .slice s.pw1 s.N1 s.cw1, .slice s.pf2 s.N2 s.cf2, .slice s.pw2 s.N2 s.cw2, .slice s.pd1 s.Dn1.length s.cd1, .slice s.pd2 s.Dn2.length s.cd2, s.vh]
/-- All that stands between two calls; ex: the side that is under way. -/
structure WI (w0 : World) (K : Nat) (Z : Nat) (ex : Option Nat) (s : Ws) (w : World) : Prop where
  blk : w.heap[Z]? = some (.cells s.cs 30 (0, 0))
  tz : s.tag Z = (0, 0)
  rl : w.ownsRow 0 40 2 s.vl s.sd.length (cellsS s.sd)
  tl : ∀ k, s.vl.ownBlock = some k → s.tag k = (0, 7)
  so : ∀ i x, s.sd[i]? = some x → ex ≠ some i → SOk K s.tag i x w
  b1 : LB 0 9 1 28 s.tag s.N1 s.vs1 (fun i => (s.L1 i).length) (fun i => (s.L1 i).map S) (.slice s.pf1 s.N1 s.cf1) 0 w
  u1 : LW 0 28 s.tag s.N1 s.ws1 (fun i => (s.L1 i).length) (fun i => (s.L1 i).map S) (.slice s.pw1 s.N1 s.cw1) w
  d1 : LD 0 9 1 28 mkS s.tag (Pv 0 0) (.slice s.pd1 s.Dn1.length s.cd1) s.Dn1 (.slice none 0 0) 0 w
  b2 : LB 1 69 2 43 s.tag s.N2 s.vs2 (fun i => (s.L2 i).length) (fun i => cellsW (s.L2 i)) (.slice s.pf2 s.N2 s.cf2) 0 w
  u2 : LW 1 43 s.tag s.N2 s.ws2 (fun i => (s.L2 i).length) (fun i => cellsW (s.L2 i)) (.slice s.pw2 s.N2 s.cw2) w
  d2 : LD 1 69 2 43 mkW s.tag (Pv 1 0) (.slice s.pd2 s.Dn2.length s.cd2) s.Dn2 (.slice none 0 0) 0 w
  e1 : s.Dn1.length = 12 * s.f1
  e2 : s.Dn2.length = 12 * s.f2
  n1 : s.f1 + s.N1 ≤ 2 * K
  n2 : s.f2 + s.N2 ≤ 2 * K
  ns : s.sd.length ≤ K
  rh : w.ownsRow 0 9 1 s.vh s.hn s.hs
  th : ∀ k, s.vh.ownBlock = some k → s.tag k = (0, 8)
  old : Below w0.heap.size w0 w
  told : ∀ k, k < w0.heap.size → s.tag k = (9, 9)
/-- The tags that are in use. -/
def Used (t : Tg) : Prop := t.1 ≠ 7
section
variable {w0 w w' : World} {K Z : Nat} {ex : Option Nat} {s : Ws} {Q : Nat → Prop} {tag' : Nat → Tg}
theorem SOk.only {i : Nat} {x : Sd} {tag : Nat → Tg} (h : SOk K tag i x w) (ho : Only Q w w') (hq : ∀ k, Q k → k < w.heap.size → tag k ≠ (1, i) ∧ tag k ≠ (2, i)) : SOk K tag i x w' :=
  ⟨h.dat.only ho (fun k hk q => (hq k q (h.dat.old k hk)).1 (h.td k hk)), h.rat.only ho (fun k hk q => (hq k q (h.rat.old k hk)).2 (h.tr k hk)), h.ok, h.rel, h.ac, h.td, h.tr⟩
theorem SOk.retag {i : Nat} {x : Sd} {tag : Nat → Tg} (h : SOk K tag i x w) (ha : ∀ k, k < w.heap.size → (tag k).1 ≠ 7 → tag' k = tag k) : SOk K tag' i x w :=
  ⟨h.dat, h.rat, h.ok, h.rel, h.ac, fun k hk => (ha k (h.dat.old k hk) (by rw [h.td k hk]; simp)).trans (h.td k hk), fun k hk => (ha k (h.rat.old k hk) (by rw [h.tr k hk]; simp)).trans (h.tr k hk)⟩
theorem LB.ret {κ e sz T N : Nat} {tag : Nat → Tg} {vs : Nat → Value} {ns : Nat → Nat} {C : Nat → List Value} {vf : Value} {lo : Nat} (h : LB κ e sz T tag N vs ns C vf lo w) (hκ : κ ≤ 1) (ha : ∀ k, k < w.heap.size → (tag k).1 ≠ 7 → tag' k = tag k) : LB κ e sz T tag' N vs ns C vf lo w :=
  ⟨h.rf, fun k hk => (ha k (owns_blk h.rf k hk) (by rw [h.tf k hk]; simp)).trans (h.tf k hk), h.fl, fun i h1 h2 k hk => (ha k (owns_blk (h.fl i h1 h2) k hk) (by rw [h.ft i h1 h2 k hk]; simp; omega)).trans (h.ft i h1 h2 k hk), h.sm⟩
theorem LW.ret {κ T N : Nat} {tag : Nat → Tg} {ws : Nat → Value} {ns : Nat → Nat} {C : Nat → List Value} {vw : Value} (h : LW κ T tag N ws ns C vw w) (ha : ∀ k, k < w.heap.size → (tag k).1 ≠ 7 → tag' k = tag k) : LW κ T tag' N ws ns C vw w := by
  refine ⟨h.rw_, fun k hk => (ha k (owns_blk h.rw_ k hk) (by rw [h.tw k hk]; simp)).trans (h.tw k hk), fun i hi => ?_⟩
  obtain ⟨p, c, e1, e2⟩ := h.wl i hi
  refine ⟨p, c, e1, fun hn => ?_⟩
  obtain ⟨g, f1, f2, f3, f4⟩ := e2 hn
  exact ⟨g, f1, f2, (ha g f2 (by rw [f3]; simp)).trans f3, f4⟩
theorem LD.ret {κ e sz T lo : Nat} {mk : Nat → List Value} {tag : Nat → Tg} {vd : Value} {Dn : List Value} {x : Value} {len : Nat} (h : LD κ e sz T mk tag (Pv κ lo) vd Dn x len w) (hκ : κ ≤ 1) (ha : ∀ k, k < w.heap.size → (tag k).1 ≠ 7 → tag' k = tag k) : LD κ e sz T mk tag' (Pv κ lo) vd Dn x len w :=
  h.retag (fun k hk q => by rw [ha k hk (by rw [q]; simp)]; exact q) (fun k hk q => by
    have : (tag k).1 ≠ 7 := by
      rcases q with q | ⟨q, _⟩
      · rw [q]; simp
      · omega
    rw [ha k hk this]
    exact q)
/-- What turns only loose blocks and those of the side under way. -/
theorem WI.only (h : WI w0 K Z ex s w) (ho : Only Q w w') (hq : ∀ k, Q k → k < w.heap.size → (s.tag k).1 = 7 ∨ ∃ i, ex = some i ∧ (s.tag k = (1, i) ∨ s.tag k = (2, i))) : WI w0 K Z ex s w' := by
  have key : ∀ k, Q k → k < w.heap.size → (s.tag k).1 = 7 ∨ (s.tag k).1 = 1 ∨ (s.tag k).1 = 2 := by
    intro k q l
    rcases hq k q l with a | ⟨i, _, a | a⟩
    · exact .inl a
    · exact .inr (.inl (by rw [a]))
    · exact .inr (.inr (by rw [a]))
  have ne : ∀ {a b : Nat}, a ≠ 7 → a ≠ 1 → a ≠ 2 → ∀ k, Q k → k < w.heap.size → s.tag k ≠ (a, b) := by
    intro a b h7 h1 h2 k q l e
    have := key k q l
    rw [e] at this
    simp at this
    omega
  have npv : ∀ {κ : Nat}, κ ≤ 1 → ∀ k, Q k → k < w.heap.size → ¬ Pv κ 0 (s.tag k) := by
    intro κ hκ k q l e
    rcases e with e | ⟨_, e⟩
    · exact ne (by decide) (by decide) (by decide) k q l e
    · omega
  refine ⟨(ho.block Z (lt_of_row h.blk) (fun q => ne (by decide) (by decide) (by decide) Z q (lt_of_row h.blk) h.tz)).trans h.blk, h.tz,
    owns_only h.rl ho (fun k hk q => ne (by decide) (by decide) (by decide) k q (owns_blk h.rl k hk) (h.tl k hk)), h.tl,
    fun i x hx hi => (h.so i x hx hi).only ho (fun k q l => ?_),
    h.b1.only ho (fun k q l => ⟨ne (by decide) (by decide) (by decide) k q l, fun i _ => ne (by decide) (by decide) (by decide) k q l⟩),
    h.u1.only ho (fun k q l => ⟨ne (by decide) (by decide) (by decide) k q l, ne (by decide) (by decide) (by decide) k q l⟩),
    h.d1.only ho (fun k q l => ⟨ne (by decide) (by decide) (by decide) k q l, npv (by decide) k q l⟩),
    h.b2.only ho (fun k q l => ⟨ne (by decide) (by decide) (by decide) k q l, fun i _ => ne (by decide) (by decide) (by decide) k q l⟩),
    h.u2.only ho (fun k q l => ⟨ne (by decide) (by decide) (by decide) k q l, ne (by decide) (by decide) (by decide) k q l⟩),
    h.d2.only ho (fun k q l => ⟨ne (by decide) (by decide) (by decide) k q l, npv (by decide) k q l⟩),
    h.e1, h.e2, h.n1, h.n2, h.ns,
    owns_only h.rh ho (fun k hk q => ne (by decide) (by decide) (by decide) k q (owns_blk h.rh k hk) (h.th k hk)), h.th,
    h.old.trans ⟨ho.os, ho.tape, ho.output, ho.size, fun k hk => ho.block k (Nat.lt_of_lt_of_le hk h.old.size) (fun q => ne (by decide) (by decide) (by decide) k q (Nat.lt_of_lt_of_le hk h.old.size) (h.told k hk))⟩, h.told⟩
  rcases hq k q l with a | ⟨j, e, a⟩
  · constructor <;> (intro e; rw [e] at a; simp at a)
  · subst e
    have hij : j ≠ i := fun e => hi (by rw [e])
    rcases a with a | a <;> rw [a]
    · exact ⟨fun e => hij (congrArg Prod.snd e), tg_ne (by decide)⟩
    · exact ⟨tg_ne (by decide), fun e => hij (congrArg Prod.snd e)⟩
theorem WI.below (h : WI w0 K Z ex s w) (hb : Below w.heap.size w w') : WI w0 K Z ex s w' := h.only (Q := fun _ => False) (Only.of_below hb) (fun _ q => q.elim)
theorem WI.ret (h : WI w0 K Z ex s w) (ha : ∀ k, k < w.heap.size → (s.tag k).1 ≠ 7 → tag' k = s.tag k) : WI w0 K Z ex { s with tag := tag' } w :=
  ⟨h.blk, (ha Z (lt_of_row h.blk) (by rw [h.tz]; simp)).trans h.tz, h.rl, fun k hk => (ha k (owns_blk h.rl k hk) (by rw [h.tl k hk]; simp)).trans (h.tl k hk), fun i x hx hi => (h.so i x hx hi).retag ha, h.b1.ret (by decide) ha, h.u1.ret ha, h.d1.ret (by decide) ha, h.b2.ret (by decide) ha, h.u2.ret ha, h.d2.ret (by decide) ha, h.e1, h.e2, h.n1, h.n2, h.ns, h.rh, fun k hk => (ha k (owns_blk h.rh k hk) (by rw [h.th k hk]; simp)).trans (h.th k hk), h.old, fun k hk => (ha k (Nat.lt_of_lt_of_le hk h.old.size) (by rw [h.told k hk]; simp)).trans (h.told k hk)⟩
/-- New blocks get a tag. -/
theorem WI.ext (h : WI w0 K Z ex s w) (t : Tg) : WI w0 K Z ex { s with tag := ext s.tag w.heap.size t } w := h.ret (fun _ hk _ => ext_old hk)
theorem WI.lt (h : WI w0 K Z ex s w) : Z < w.heap.size := lt_of_row h.blk
theorem WI.cell (h : WI w0 K Z ex s w) (j : Nat) : w.cell? ⟨Z, j, none⟩ = s.cs[j]? := cell_of_row w Z j _ 30 (0, 0) h.blk
theorem SOk.mono {i : Nat} {x : Sd} {tag : Nat → Tg} {K' : Nat} (h : SOk K tag i x w) (hk : K ≤ K') : SOk K' tag i x w := ⟨h.dat, h.rat, h.ok, h.rel, ⟨h.ac.1, by have := h.ac.2; omega⟩, h.td, h.tr⟩
theorem WI.mono {K' : Nat} (h : WI w0 K Z ex s w) (hk : K ≤ K') : WI w0 K' Z ex s w :=
  ⟨h.blk, h.tz, h.rl, h.tl, fun i x hx hi => (h.so i x hx hi).mono hk, h.b1, h.u1, h.d1, h.b2, h.u2, h.d2, h.e1, h.e2, by have := h.n1; omega, by have := h.n2; omega, by have := h.ns; omega, h.rh, h.th, h.old, h.told⟩
/-- A side is taken out, and put back. -/
theorem WI.open (h : WI w0 K Z none s w) (i : Nat) : WI w0 K Z (some i) s w :=
  ⟨h.blk, h.tz, h.rl, h.tl, fun j x hx _ => h.so j x hx (by simp), h.b1, h.u1, h.d1, h.b2, h.u2, h.d2, h.e1, h.e2, h.n1, h.n2, h.ns, h.rh, h.th, h.old, h.told⟩
theorem WI.close {i : Nat} {x x' : Sd} (h : WI w0 K Z (some i) s w) (hx : s.sd[i]? = some x) (h1 : x'.D = x.D) (h2 : x'.X = x.X) (hs : SOk K s.tag i x' w) : WI w0 K Z none { s with sd := s.sd.set i x' } w := by
  refine ⟨h.blk, h.tz, ?_, h.tl, fun j y hy _ => ?_, h.b1, h.u1, h.d1, h.b2, h.u2, h.d2, h.e1, h.e2, h.n1, h.n2, by simp; exact h.ns, h.rh, h.th, h.old, h.told⟩
  · show World.ownsRow w 0 40 2 s.vl (s.sd.set i x').length (cellsS (s.sd.set i x'))
    rw [List.length_set, cellsS_set _ _ _ _ hx h1 h2]
    exact h.rl
  · have hy' : (s.sd.set i x')[j]? = some y := hy
    by_cases e : j = i
    · subst e
      have hl : j < s.sd.length := (List.getElem?_eq_some_iff.1 hx).1
      rw [List.getElem?_set_self hl] at hy'
      cases hy'
      exact hs
    · rw [List.getElem?_set_ne (Ne.symm e)] at hy'
      exact h.so j y hy' (fun q => e (by cases q; rfl))
end
end Go.Proofs.Ytpelmacblglhoaa
namespace Go.Proofs.Ytpelmacblglhoaa
open Go.RowKit
set_option maxHeartbeats 4000000
set_option maxRecDepth 8000
section
variable {w0 w w' : World} {K Z : Nat} {s : Ws} {ex : Option Nat}
theorem WI.addSide (h : WI w0 K Z none s w) {x : Sd} {vl' : Value} (hns : s.sd.length + 1 ≤ K)
    (hd : DAt x.D x.d x.vw x.vl w) (hr : RAt x.X x.r x.ul x.ui x.up w) (ho : Ok x.d) (hrel : Rel x.d x.r) (hac : 0 ≤ x.d.acts ∧ x.d.acts ≤ K)
    (htd : ∀ k, Of x.D x.vw x.vl k → s.tag k = (7, 1)) (htr : ∀ k, OfR x.X x.ul x.ui x.up k → s.tag k = (7, 2))
    (hO : Only (fun k => k = Z ∨ s.vl.ownBlock = some k) w w') (hb : w'.heap[Z]? = some (.cells ({ s with vl := vl' } : Ws).cs 30 (0, 0)))
    (hl : w'.ownsRow 0 40 2 vl' (s.sd.length + 1) (cellsS s.sd ++ [ptr x.D, ptr x.X])) (hn : ∀ k, vl'.ownBlock = some k → s.vl.ownBlock = some k ∨ w.heap.size ≤ k) :
    ∃ tag', WI w0 K Z none { s with tag := tag', vl := vl', sd := s.sd ++ [x] } w' := by
  obtain ⟨tag', htag⟩ : ∃ tag' : Nat → Tg, tag' = fun k => if k < w.heap.size then (if s.tag k = (7, 1) then (1, s.sd.length) else if s.tag k = (7, 2) then (2, s.sd.length) else s.tag k) else (0, 7) := ⟨_, rfl⟩
  have ha : ∀ k, k < w.heap.size → (s.tag k).1 ≠ 7 → tag' k = s.tag k := fun k hk h7 => by
    rw [htag]
    simp only
    rw [if_pos hk, if_neg (fun q => h7 (by rw [q])), if_neg (fun q => h7 (by rw [q]))]
  have h71 : ∀ k, k < w.heap.size → s.tag k = (7, 1) → tag' k = (1, s.sd.length) := fun k hk q => by rw [htag]; simp only; rw [if_pos hk, if_pos q]
  have h72 : ∀ k, k < w.heap.size → s.tag k = (7, 2) → tag' k = (2, s.sd.length) := fun k hk q => by rw [htag]; simp only; rw [if_pos hk, if_neg (by rw [q]; decide), if_pos q]
  have hA := h.ret ha
  have hQ : ∀ k, (k = Z ∨ s.vl.ownBlock = some k) → k < w.heap.size → tag' k = (0, 0) ∨ tag' k = (0, 7) := by
    rintro k (rfl | q) _
    · exact .inl hA.tz
    · exact .inr (hA.tl k q)
  have ne : ∀ {a b : Nat}, ((a, b) : Tg) ≠ (0, 0) → ((a, b) : Tg) ≠ (0, 7) → ∀ k, (k = Z ∨ s.vl.ownBlock = some k) → k < w.heap.size → tag' k ≠ (a, b) := by
    intro a b n0 n1 k hk hl e
    rcases hQ k hk hl with q | q <;> rw [q] at e
    · exact n0 e.symm
    · exact n1 e.symm
  have npv : ∀ {κ : Nat}, ∀ k, (k = Z ∨ s.vl.ownBlock = some k) → k < w.heap.size → ¬ Pv κ 0 (tag' k) := by
    intro κ k hk hl e
    rcases e with e | ⟨_, e⟩
    · exact ne (by decide) (by decide) k hk hl e
    · omega
  have n3 : ∀ {a b : Nat}, a ≠ 0 → ∀ k, (k = Z ∨ s.vl.ownBlock = some k) → k < w.heap.size → tag' k ≠ (a, b) := fun h => ne (tg_ne h) (tg_ne h)
  refine ⟨tag', hb, hA.tz, by rw [List.length_append, cellsS_append]; exact hl, fun k hk => ?_, fun i y hy _ => ?_,
    hA.b1.only hO (fun k q l => ⟨ne (by decide) (by decide) k q l, fun i _ => n3 (by decide) k q l⟩),
    hA.u1.only hO (fun k q l => ⟨ne (by decide) (by decide) k q l, ne (by decide) (by decide) k q l⟩),
    hA.d1.only hO (fun k q l => ⟨ne (by decide) (by decide) k q l, npv k q l⟩),
    hA.b2.only hO (fun k q l => ⟨ne (by decide) (by decide) k q l, fun i _ => n3 (by decide) k q l⟩),
    hA.u2.only hO (fun k q l => ⟨ne (by decide) (by decide) k q l, ne (by decide) (by decide) k q l⟩),
    hA.d2.only hO (fun k q l => ⟨ne (by decide) (by decide) k q l, npv k q l⟩),
    hA.e1, hA.e2, hA.n1, hA.n2, by rw [List.length_append]; exact hns,
    owns_only hA.rh hO (fun k hk q => ne (by decide) (by decide) k q (owns_blk hA.rh k hk) (hA.th k hk)), hA.th,
    hA.old.trans ⟨hO.os, hO.tape, hO.output, hO.size, fun k hk => hO.block k (Nat.lt_of_lt_of_le hk hA.old.size) (fun q => ne (by decide) (by decide) k q (Nat.lt_of_lt_of_le hk hA.old.size) (hA.told k hk))⟩, hA.told⟩
  · rcases hn k hk with q | q
    · exact hA.tl k q
    · show tag' k = _
      rw [htag]
      simp only
      rw [if_neg (by omega)]
  · have hy' : (s.sd ++ [x])[i]? = some y := hy
    by_cases e : i < s.sd.length
    · rw [List.getElem?_append_left e] at hy'
      exact (hA.so i y hy' (by simp)).only hO (fun k q l => ⟨n3 (by decide) k q l, n3 (by decide) k q l⟩)
    · rw [List.getElem?_append_right (by omega)] at hy'
      have e0 : i - s.sd.length = 0 := by
        have := (List.getElem?_eq_some_iff.1 hy').1
        simp at this
        omega
      rw [e0] at hy'
      simp at hy'
      subst hy'
      have ei : i = s.sd.length := by omega
      subst ei
      have a1 : ∀ k, Of x.D x.vw x.vl k → tag' k = (1, s.sd.length) := fun k hk => h71 k (hd.old k hk) (htd k hk)
      have a2 : ∀ k, OfR x.X x.ul x.ui x.up k → tag' k = (2, s.sd.length) := fun k hk => h72 k (hr.old k hk) (htr k hk)
      exact ⟨hd.only hO (fun k hk q => n3 (by decide) k q (hd.old k hk) (a1 k hk)), hr.only hO (fun k hk q => n3 (by decide) k q (hr.old k hk) (a2 k hk)), ho, hrel, hac, a1, a2⟩
/-- What is lent has other texts. -/
theorem WI.hand (h : WI w0 K Z ex s w) {hs' : List Value} (hO : Only (fun k => s.vh.ownBlock = some k) w w') (hr : w'.ownsRow 0 9 1 s.vh s.hn hs') : WI w0 K Z ex { s with hs := hs' } w' := by
  have ne : ∀ {a b : Nat}, ((a, b) : Tg) ≠ (0, 8) → ∀ k, s.vh.ownBlock = some k → s.tag k ≠ (a, b) := fun n k q e => n (by rw [← e]; exact h.th k q)
  have npv : ∀ {κ : Nat}, ∀ k, s.vh.ownBlock = some k → ¬ Pv κ 0 (s.tag k) := by
    intro κ k hk e
    rcases e with e | ⟨_, e⟩
    · exact ne (by decide) k hk e
    · omega
  have n3 : ∀ {a b : Nat}, a ≠ 0 → ∀ k, s.vh.ownBlock = some k → s.tag k ≠ (a, b) := fun h => ne (tg_ne h)
  exact ⟨(hO.block Z h.lt (fun q => ne (by decide) Z q h.tz)).trans h.blk, h.tz, owns_only h.rl hO (fun k hk q => ne (by decide) k q (h.tl k hk)), h.tl, fun i y hy hi => (h.so i y hy hi).only hO (fun k q l => ⟨n3 (by decide) k q, n3 (by decide) k q⟩),
    h.b1.only hO (fun k q l => ⟨ne (by decide) k q, fun i _ => n3 (by decide) k q⟩),
    h.u1.only hO (fun k q l => ⟨ne (by decide) k q, ne (by decide) k q⟩),
    h.d1.only hO (fun k q l => ⟨ne (by decide) k q, npv k q⟩),
    h.b2.only hO (fun k q l => ⟨ne (by decide) k q, fun i _ => n3 (by decide) k q⟩),
    h.u2.only hO (fun k q l => ⟨ne (by decide) k q, ne (by decide) k q⟩),
    h.d2.only hO (fun k q l => ⟨ne (by decide) k q, npv k q⟩),
    h.e1, h.e2, h.n1, h.n2, h.ns, hr, h.th,
    h.old.trans ⟨hO.os, hO.tape, hO.output, hO.size, fun k hk => hO.block k (Nat.lt_of_lt_of_le hk h.old.size) (fun q => ne (by decide) k q (h.told k hk))⟩, h.told⟩
/-- New memory to lend. -/
theorem WI.newHand (h : WI w0 K Z ex s w) {g n : Nat} {hs' : List Value} (hr : w.ownsRow 0 9 1 (.slice (some ⟨g, 0, none⟩) n n) n hs') (ht : (s.tag g).1 = 7) : ∃ tag', (tag' g = (0, 8)) ∧ (∀ k, k ≠ g → tag' k = s.tag k) ∧ WI w0 K Z ex { s with tag := tag', vh := .slice (some ⟨g, 0, none⟩) n n, hn := n, hs := hs' } (w.setCell ⟨Z, 7, none⟩ (.slice (some ⟨g, 0, none⟩) n n)) := by
  obtain ⟨tag', htag⟩ : ∃ tag' : Nat → Tg, tag' = fun k => if k = g then (0, 8) else s.tag k := ⟨_, rfl⟩
  have tg1 : tag' g = (0, 8) := by rw [htag]; simp
  have tg2 : ∀ k, k ≠ g → tag' k = s.tag k := fun k hk => by rw [htag]; simp [hk]
  have ha : ∀ k, k < w.heap.size → (s.tag k).1 ≠ 7 → tag' k = s.tag k := fun k hk h7 => tg2 k (fun q => h7 (by rw [q]; exact ht))
  have hA := h.ret ha
  have hO := Only.setCell w ⟨Z, 7, none⟩ (.slice (some ⟨g, 0, none⟩) n n)
  have hgZ : g ≠ Z := fun q => by rw [q, h.tz] at ht; simp at ht
  have ne : ∀ {a b : Nat}, ((a, b) : Tg) ≠ (0, 0) → ∀ k, k = Z → tag' k ≠ (a, b) := fun n k q e => n (by rw [← e, q]; exact hA.tz)
  have npv : ∀ {κ : Nat}, ∀ k, k = Z → ¬ Pv κ 0 (tag' k) := by
    intro κ k hk e
    rcases e with e | ⟨_, e⟩
    · exact ne (by decide) k hk e
    · omega
  have n3 : ∀ {a b : Nat}, a ≠ 0 → ∀ k, k = Z → tag' k ≠ (a, b) := fun h => ne (tg_ne h)
  exact ⟨tag', tg1, tg2, heap_setCell_same w Z 7 _ 30 _ h.blk, hA.tz, owns_only hA.rl hO (fun k hk q => ne (by decide) k q (hA.tl k hk)), hA.tl, fun i y hy hi => (hA.so i y hy hi).only hO (fun k q l => ⟨n3 (by decide) k q, n3 (by decide) k q⟩),
    hA.b1.only hO (fun k q l => ⟨ne (by decide) k q, fun i _ => n3 (by decide) k q⟩),
    hA.u1.only hO (fun k q l => ⟨ne (by decide) k q, ne (by decide) k q⟩),
    hA.d1.only hO (fun k q l => ⟨ne (by decide) k q, npv k q⟩),
    hA.b2.only hO (fun k q l => ⟨ne (by decide) k q, fun i _ => n3 (by decide) k q⟩),
    hA.u2.only hO (fun k q l => ⟨ne (by decide) k q, ne (by decide) k q⟩),
    hA.d2.only hO (fun k q l => ⟨ne (by decide) k q, npv k q⟩),
    hA.e1, hA.e2, hA.n1, hA.n2, hA.ns, owns_only hr hO (fun k hk q => by cases hk; exact hgZ q), fun k hk => by cases hk; exact tg1,
    hA.old.trans ⟨hO.os, hO.tape, hO.output, hO.size, fun k hk => hO.block k (Nat.lt_of_lt_of_le hk hA.old.size) (fun q => ne (by decide) k q (hA.told k hk))⟩, hA.told⟩
end
end Go.Proofs.Ytpelmacblglhoaa
