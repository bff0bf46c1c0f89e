import Derived.Test.YtpelmacblglhoaaZzbi
import Derived.Test.YtpelmacblglhoaaDuh
namespace Go.Proofs.Ytpelmacblglhoaa
open Go.RowKit
set_option maxHeartbeats 1000000
theorem info28 : (Try.prog.info? 28).map (fun i => (i.zero, i.size, i.bytes)) = some (some (.slice none 0 0), 1, 24) := by kernel_rfl
theorem info43 : (Try.prog.info? 43).map (fun i => (i.zero, i.size, i.bytes)) = some (some (.slice none 0 0), 1, 24) := by kernel_rfl
/-- The cells when i lists are all marks and k things of the next one are. -/
def prt (mk : Nat → List Value) (sz f : Nat) (ns : Nat → Nat) (C : Nat → List Value) (i k : Nat) : Nat → List Value := fun j => if j < i then (List.replicate (ns j) (mk (f + j))).flatten else if j = i then (List.replicate k (mk (f + i))).flatten ++ (C i).drop (k * sz) else C j
section
variable {mk : Nat → List Value} {sz f : Nat} {ns : Nat → Nat} {C : Nat → List Value}
theorem prt_zero : prt mk sz f ns C 0 0 = C := by
  funext j
  unfold prt
  by_cases h : j = 0 <;> simp [h]
theorem prt_next (i : Nat) (hc : (C i).length = ns i * sz) : prt mk sz f ns C i (ns i) = prt mk sz f ns C (i + 1) 0 := by
  funext j
  unfold prt
  by_cases h1 : j < i
  · rw [if_pos h1, if_pos (by omega)]
  · by_cases h2 : j = i
    · subst h2
      rw [if_neg h1, if_pos rfl, if_pos (by omega), List.drop_of_length_le (by omega), List.append_nil]
    · rw [if_neg h1, if_neg h2, if_neg (by omega)]
      by_cases h3 : j = i + 1
      · subst h3
        rw [if_pos rfl]
        simp
      · rw [if_neg h3]
theorem prt_done (i j : Nat) (h : j < i) : prt mk sz f ns C i 0 j = (List.replicate (ns j) (mk (f + j))).flatten := if_pos h
theorem flat_len {m : List Value} (hm : m.length = sz) (k : Nat) : ((List.replicate k m).flatten).length = k * sz := by
  induction k with
  | zero => simp
  | succ k ih => rw [List.replicate_succ, List.flatten_cons, List.length_append, ih, hm, Nat.add_mul]; omega
theorem flat_succ {m : List Value} (k : Nat) : (List.replicate (k + 1) m).flatten = (List.replicate k m).flatten ++ m := by
  rw [List.replicate_succ']
  simp
theorem prt_at (i k : Nat) : prt mk sz f ns C i k i = (List.replicate k (mk (f + i))).flatten ++ (C i).drop (k * sz) := by
  unfold prt
  rw [if_neg (Nat.lt_irrefl _), if_pos rfl]
theorem prt_step (i k : Nat) (c' : List Value) (h : c' = prt mk sz f ns C i (k + 1) i) : (fun j => if j = i then c' else prt mk sz f ns C i k j) = prt mk sz f ns C i (k + 1) := by
  funext j
  by_cases hj : j = i
  · subst hj
    rw [if_pos rfl, h]
  · rw [if_neg hj]
    unfold prt
    by_cases h1 : j < i
    · rw [if_pos h1, if_pos h1]
    · rw [if_neg h1, if_neg hj, if_neg h1, if_neg hj]
end
theorem prt_set1 (f : Nat) (ns : Nat → Nat) (C : Nat → List Value) (i k : Nat) (hc : (C i).length = ns i * 1) (hk : k < ns i) : (prt mkS 1 f ns C i k i).set k (S (mkv (f + i))) = prt mkS 1 f ns C i (k + 1) i := by
  rw [prt_at, prt_at]
  have hl : ((List.replicate k (mkS (f + i))).flatten).length = k := by rw [flat_len (sz := 1) rfl]; omega
  rw [List.set_append_right _ _ (by omega), hl, Nat.sub_self, flat_succ, List.append_assoc]
  congr 1
  rw [Nat.mul_one, Nat.mul_one, List.drop_eq_getElem_cons (by omega)]
  rfl
theorem prt_set2 (f : Nat) (ns : Nat → Nat) (C : Nat → List Value) (i k : Nat) (hc : (C i).length = ns i * 2) (hk : k < ns i) : ((prt mkW 2 f ns C i k i).set (k * 2) (I (-1 - ((f + i : Nat) : Int)))).set (k * 2 + 1) (S []) = prt mkW 2 f ns C i (k + 1) i := by
  rw [prt_at, prt_at]
  have hl : ((List.replicate k (mkW (f + i))).flatten).length = k * 2 := flat_len (sz := 2) rfl k
  rw [List.set_append_right _ _ (by omega), hl, Nat.sub_self, List.set_append_right _ _ (by omega), hl, show k * 2 + 1 - k * 2 = 1 by omega, flat_succ, List.append_assoc]
  congr 1
  rw [List.drop_eq_getElem_cons (by omega), List.drop_eq_getElem_cons (by omega), show (k + 1) * 2 = k * 2 + 1 + 1 by omega]
  rfl
/-- A list that was, as texts. -/
theorem LW.sts {tag : Nat → Tg} {N : Nat} {ws : Nat → Value} {L : Nat → List Bs} {vw : Value} {w : World} (h : LW 0 28 tag N ws (fun i => (L i).length) (fun i => (L i).map S) vw w) {i : Nat} (hi : i < N) : ∃ p c, ws i = .slice p (L i).length c ∧ Sts w p (L i).length (L i) := by
  obtain ⟨p, c, e1, e2⟩ := h.wl i hi
  refine ⟨p, c, e1, rfl, fun hn => ?_⟩
  obtain ⟨g, f1, f2, f3, f4⟩ := e2 hn
  exact ⟨g, 0, f1, fun j hj => by rw [Nat.zero_add]; exact f4 j _ (map_at S _ [] j hj)⟩
theorem LW.wls {tag : Nat → Tg} {N : Nat} {ws : Nat → Value} {L : Nat → List Wr} {vw : Value} {w : World} (h : LW 1 43 tag N ws (fun i => (L i).length) (fun i => cellsW (L i)) vw w) {i : Nat} (hi : i < N) : ∃ p c, ws i = .slice p (L i).length c ∧ Wls w p (L i).length (L i) := by
  obtain ⟨p, c, e1, e2⟩ := h.wl i hi
  refine ⟨p, c, e1, rfl, fun hn => ?_⟩
  obtain ⟨g, f1, f2, f3, f4⟩ := e2 hn
  have hz := cellsW_at (L i)
  exact ⟨g, 0, f1, fun j hj => by rw [Nat.zero_add]; exact ⟨f4 _ _ (hz j hj).1, f4 _ _ (hz j hj).2⟩⟩
end Go.Proofs.Ytpelmacblglhoaa
namespace Go.Proofs.Ytpelmacblglhoaa
open Go.RowKit
set_option maxHeartbeats 4000000
set_option maxRecDepth 8000
/-- A disk, and the document's, and where they lie. -/
structure Sd where
  D : Nat
  X : Nat
  vw : Value
  vl : Value
  ul : Value
  ui : Value
  up : Value
  d : Ds
  r : Rd
structure SOk (K : Nat) (tag : Nat → Tg) (i : Nat) (s : Sd) (w : World) : Prop where
  dat : DAt s.D s.d s.vw s.vl w
  rat : RAt s.X s.r s.ul s.ui s.up w
  ok : Ok s.d
  rel : Rel s.d s.r
  ac : 0 ≤ s.d.acts ∧ s.d.acts ≤ K
  td : ∀ k, Of s.D s.vw s.vl k → tag k = (1, i)
  tr : ∀ k, OfR s.X s.ul s.ui s.up k → tag k = (2, i)
def cellsS (l : List Sd) : List Value := l.flatMap fun s => [ptr s.D, ptr s.X]
theorem cellsS_len (l : List Sd) : (cellsS l).length = l.length * 2 := by
  unfold cellsS
  induction l with
  | nil => rfl
  | cons f l ih => rw [List.flatMap_cons, List.length_append, ih]; simp; omega
theorem cellsS_append (a b : List Sd) : cellsS (a ++ b) = cellsS a ++ cellsS b := by simp [cellsS]
theorem cellsS_at (l : List Sd) (j : Nat) (x : Sd) (hj : l[j]? = some x) : (cellsS l)[j * 2]? = some (ptr x.D) ∧ (cellsS l)[j * 2 + 1]? = some (ptr x.X) := by
  induction l generalizing j with
  | nil => simp at hj
  | cons f l ih =>
    have e : cellsS (f :: l) = ptr f.D :: ptr f.X :: cellsS l := rfl
    rw [e]
    cases j with
    | zero =>
      simp at hj
      subst hj
      exact ⟨rfl, rfl⟩
    | succ j =>
      have := ih j (by simpa using hj)
      rw [show (j + 1) * 2 = j * 2 + 1 + 1 by omega, show j * 2 + 1 + 1 + 1 = (j * 2 + 1) + 1 + 1 by omega]
      simpa using this
theorem cellsS_set (l : List Sd) (i : Nat) (x x' : Sd) (hx : l[i]? = some x) (h1 : x'.D = x.D) (h2 : x'.X = x.X) : cellsS (l.set i x') = cellsS l := by
  induction l generalizing i with
  | nil => rfl
  | cons f l ih =>
    cases i with
    | zero =>
      simp at hx
      subst hx
      show ptr x'.D :: ptr x'.X :: cellsS l = ptr f.D :: ptr f.X :: cellsS l
      rw [h1, h2]
    | succ i =>
      show ptr f.D :: ptr f.X :: cellsS (l.set i x') = ptr f.D :: ptr f.X :: cellsS l
      rw [ih i (by simpa using hx)]
/-- What the law's world has. -/
structure Ws where
  tag : Nat → Tg
  sd : List Sd
  vl : Value
  N1 : Nat
  f1 : Nat
  vs1 : Nat → Value
  ws1 : Nat → Value
  L1 : Nat → List Bs
  pf1 : Option Addr
  pw1 : Option Addr
  pd1 : Option Addr
  cf1 : Nat
  cw1 : Nat
  cd1 : Nat
  Dn1 : List Value
  N2 : Nat
  f2 : Nat
  vs2 : Nat → Value
  ws2 : Nat → Value
  L2 : Nat → List Wr
  pf2 : Option Addr
  pw2 : Option Addr
  pd2 : Option Addr
  cf2 : Nat
  cw2 : Nat
  cd2 : Nat
  Dn2 : List Value
  vh : Value
  hn : Nat
  hs : List Value
def Ws.cs (s : Ws) : Array Value := #[s.vl, .slice s.pf1 s.N1 s.cf1, .slice s.pw1 s.N1 s.cw1, .slice s.pf2 s.N2 s.cf2, .slice s.pw2 s.N2 s.cw2, .slice s.pd1 s.Dn1.length s.cd1, .slice s.pd2 s.Dn2.length s.cd2, s.vh]
/-- All that stands between two calls; ex: the side that is under way. -/
structure WI (w0 : World) (K : Nat) (Z : Nat) (ex : Option Nat) (s : Ws) (w : World) : Prop where
  blk : w.heap[Z]? = some (.cells s.cs 30 (0, 0))
  tz : s.tag Z = (0, 0)
  rl : w.ownsRow 0 40 2 s.vl s.sd.length (cellsS s.sd)
  tl : ∀ k, s.vl.ownBlock = some k → s.tag k = (0, 7)
  so : ∀ i x, s.sd[i]? = some x → ex ≠ some i → SOk K s.tag i x w
  b1 : LB 0 9 1 28 s.tag s.N1 s.vs1 (fun i => (s.L1 i).length) (fun i => (s.L1 i).map S) (.slice s.pf1 s.N1 s.cf1) 0 w
  u1 : LW 0 28 s.tag s.N1 s.ws1 (fun i => (s.L1 i).length) (fun i => (s.L1 i).map S) (.slice s.pw1 s.N1 s.cw1) w
  d1 : LD 0 9 1 28 mkS s.tag (Pv 0 0) (.slice s.pd1 s.Dn1.length s.cd1) s.Dn1 (.slice none 0 0) 0 w
  b2 : LB 1 69 2 43 s.tag s.N2 s.vs2 (fun i => (s.L2 i).length) (fun i => cellsW (s.L2 i)) (.slice s.pf2 s.N2 s.cf2) 0 w
  u2 : LW 1 43 s.tag s.N2 s.ws2 (fun i => (s.L2 i).length) (fun i => cellsW (s.L2 i)) (.slice s.pw2 s.N2 s.cw2) w
  d2 : LD 1 69 2 43 mkW s.tag (Pv 1 0) (.slice s.pd2 s.Dn2.length s.cd2) s.Dn2 (.slice none 0 0) 0 w
  e1 : s.Dn1.length = 12 * s.f1
  e2 : s.Dn2.length = 12 * s.f2
  n1 : s.f1 + s.N1 ≤ 2 * K
  n2 : s.f2 + s.N2 ≤ 2 * K
  ns : s.sd.length ≤ K
  rh : w.ownsRow 0 9 1 s.vh s.hn s.hs
  th : ∀ k, s.vh.ownBlock = some k → s.tag k = (0, 8)
  old : Below w0.heap.size w0 w
  told : ∀ k, k < w0.heap.size → s.tag k = (9, 9)
/-- The tags that are in use. -/
def Used (t : Tg) : Prop := t.1 ≠ 7
section
variable {w0 w w' : World} {K Z : Nat} {ex : Option Nat} {s : Ws} {Q : Nat → Prop} {tag' : Nat → Tg}
theorem SOk.only {i : Nat} {x : Sd} {tag : Nat → Tg} (h : SOk K tag i x w) (ho : Only Q w w') (hq : ∀ k, Q k → k < w.heap.size → tag k ≠ (1, i) ∧ tag k ≠ (2, i)) : SOk K tag i x w' :=
  ⟨h.dat.only ho (fun k hk q => (hq k q (h.dat.old k hk)).1 (h.td k hk)), h.rat.only ho (fun k hk q => (hq k q (h.rat.old k hk)).2 (h.tr k hk)), h.ok, h.rel, h.ac, h.td, h.tr⟩
theorem SOk.retag {i : Nat} {x : Sd} {tag : Nat → Tg} (h : SOk K tag i x w) (ha : ∀ k, k < w.heap.size → (tag k).1 ≠ 7 → tag' k = tag k) : SOk K tag' i x w :=
  ⟨h.dat, h.rat, h.ok, h.rel, h.ac, fun k hk => (ha k (h.dat.old k hk) (by rw [h.td k hk]; simp)).trans (h.td k hk), fun k hk => (ha k (h.rat.old k hk) (by rw [h.tr k hk]; simp)).trans (h.tr k hk)⟩
theorem LB.ret {κ e sz T N : Nat} {tag : Nat → Tg} {vs : Nat → Value} {ns : Nat → Nat} {C : Nat → List Value} {vf : Value} {lo : Nat} (h : LB κ e sz T tag N vs ns C vf lo w) (hκ : κ ≤ 1) (ha : ∀ k, k < w.heap.size → (tag k).1 ≠ 7 → tag' k = tag k) : LB κ e sz T tag' N vs ns C vf lo w :=
  ⟨h.rf, fun k hk => (ha k (owns_blk h.rf k hk) (by rw [h.tf k hk]; simp)).trans (h.tf k hk), h.fl, fun i h1 h2 k hk => (ha k (owns_blk (h.fl i h1 h2) k hk) (by rw [h.ft i h1 h2 k hk]; simp; omega)).trans (h.ft i h1 h2 k hk), h.sm⟩
theorem LW.ret {κ T N : Nat} {tag : Nat → Tg} {ws : Nat → Value} {ns : Nat → Nat} {C : Nat → List Value} {vw : Value} (h : LW κ T tag N ws ns C vw w) (ha : ∀ k, k < w.heap.size → (tag k).1 ≠ 7 → tag' k = tag k) : LW κ T tag' N ws ns C vw w := by
  refine ⟨h.rw_, fun k hk => (ha k (owns_blk h.rw_ k hk) (by rw [h.tw k hk]; simp)).trans (h.tw k hk), fun i hi => ?_⟩
  obtain ⟨p, c, e1, e2⟩ := h.wl i hi
  refine ⟨p, c, e1, fun hn => ?_⟩
  obtain ⟨g, f1, f2, f3, f4⟩ := e2 hn
  exact ⟨g, f1, f2, (ha g f2 (by rw [f3]; simp)).trans f3, f4⟩
theorem LD.ret {κ e sz T lo : Nat} {mk : Nat → List Value} {tag : Nat → Tg} {vd : Value} {Dn : List Value} {x : Value} {len : Nat} (h : LD κ e sz T mk tag (Pv κ lo) vd Dn x len w) (hκ : κ ≤ 1) (ha : ∀ k, k < w.heap.size → (tag k).1 ≠ 7 → tag' k = tag k) : LD κ e sz T mk tag' (Pv κ lo) vd Dn x len w :=
  h.retag (fun k hk q => by rw [ha k hk (by rw [q]; simp)]; exact q) (fun k hk q => by
    have : (tag k).1 ≠ 7 := by
      rcases q with q | ⟨q, _⟩
      · rw [q]; simp
      · omega
    rw [ha k hk this]
    exact q)
/-- What turns only loose blocks and those of the side under way. -/
theorem WI.only (h : WI w0 K Z ex s w) (ho : Only Q w w') (hq : ∀ k, Q k → k < w.heap.size → (s.tag k).1 = 7 ∨ ∃ i, ex = some i ∧ (s.tag k = (1, i) ∨ s.tag k = (2, i))) : WI w0 K Z ex s w' := by
  have key : ∀ k, Q k → k < w.heap.size → (s.tag k).1 = 7 ∨ (s.tag k).1 = 1 ∨ (s.tag k).1 = 2 := by
    intro k q l
    rcases hq k q l with a | ⟨i, _, a | a⟩
    · exact .inl a
    · exact .inr (.inl (by rw [a]))
    · exact .inr (.inr (by rw [a]))
  have ne : ∀ {a b : Nat}, a ≠ 7 → a ≠ 1 → a ≠ 2 → ∀ k, Q k → k < w.heap.size → s.tag k ≠ (a, b) := by
    intro a b h7 h1 h2 k q l e
    have := key k q l
    rw [e] at this
    simp at this
    omega
  have npv : ∀ {κ : Nat}, κ ≤ 1 → ∀ k, Q k → k < w.heap.size → ¬ Pv κ 0 (s.tag k) := by
    intro κ hκ k q l e
    rcases e with e | ⟨_, e⟩
    · exact ne (by decide) (by decide) (by decide) k q l e
    · omega
  refine ⟨(ho.block Z (lt_of_row h.blk) (fun q => ne (by decide) (by decide) (by decide) Z q (lt_of_row h.blk) h.tz)).trans h.blk, h.tz,
    owns_only h.rl ho (fun k hk q => ne (by decide) (by decide) (by decide) k q (owns_blk h.rl k hk) (h.tl k hk)), h.tl,
    fun i x hx hi => (h.so i x hx hi).only ho (fun k q l => ?_),
    h.b1.only ho (fun k q l => ⟨ne (by decide) (by decide) (by decide) k q l, fun i _ => ne (by decide) (by decide) (by decide) k q l⟩),
    h.u1.only ho (fun k q l => ⟨ne (by decide) (by decide) (by decide) k q l, ne (by decide) (by decide) (by decide) k q l⟩),
    h.d1.only ho (fun k q l => ⟨ne (by decide) (by decide) (by decide) k q l, npv (by decide) k q l⟩),
    h.b2.only ho (fun k q l => ⟨ne (by decide) (by decide) (by decide) k q l, fun i _ => ne (by decide) (by decide) (by decide) k q l⟩),
    h.u2.only ho (fun k q l => ⟨ne (by decide) (by decide) (by decide) k q l, ne (by decide) (by decide) (by decide) k q l⟩),
    h.d2.only ho (fun k q l => ⟨ne (by decide) (by decide) (by decide) k q l, npv (by decide) k q l⟩),
    h.e1, h.e2, h.n1, h.n2, h.ns,
    owns_only h.rh ho (fun k hk q => ne (by decide) (by decide) (by decide) k q (owns_blk h.rh k hk) (h.th k hk)), h.th,
    h.old.trans ⟨ho.os, ho.tape, ho.output, ho.size, fun k hk => ho.block k (Nat.lt_of_lt_of_le hk h.old.size) (fun q => ne (by decide) (by decide) (by decide) k q (Nat.lt_of_lt_of_le hk h.old.size) (h.told k hk))⟩, h.told⟩
  rcases hq k q l with a | ⟨j, e, a⟩
  · constructor <;> (intro e; rw [e] at a; simp at a)
  · subst e
    have hij : j ≠ i := fun e => hi (by rw [e])
    rcases a with a | a <;> rw [a]
    · exact ⟨fun e => hij (congrArg Prod.snd e), tg_ne (by decide)⟩
    · exact ⟨tg_ne (by decide), fun e => hij (congrArg Prod.snd e)⟩
theorem WI.below (h : WI w0 K Z ex s w) (hb : Below w.heap.size w w') : WI w0 K Z ex s w' := h.only (Q := fun _ => False) (Only.of_below hb) (fun _ q => q.elim)
theorem WI.ret (h : WI w0 K Z ex s w) (ha : ∀ k, k < w.heap.size → (s.tag k).1 ≠ 7 → tag' k = s.tag k) : WI w0 K Z ex { s with tag := tag' } w :=
  ⟨h.blk, (ha Z (lt_of_row h.blk) (by rw [h.tz]; simp)).trans h.tz, h.rl, fun k hk => (ha k (owns_blk h.rl k hk) (by rw [h.tl k hk]; simp)).trans (h.tl k hk), fun i x hx hi => (h.so i x hx hi).retag ha, h.b1.ret (by decide) ha, h.u1.ret ha, h.d1.ret (by decide) ha, h.b2.ret (by decide) ha, h.u2.ret ha, h.d2.ret (by decide) ha, h.e1, h.e2, h.n1, h.n2, h.ns, h.rh, fun k hk => (ha k (owns_blk h.rh k hk) (by rw [h.th k hk]; simp)).trans (h.th k hk), h.old, fun k hk => (ha k (Nat.lt_of_lt_of_le hk h.old.size) (by rw [h.told k hk]; simp)).trans (h.told k hk)⟩
/-- New blocks get a tag. -/
theorem WI.ext (h : WI w0 K Z ex s w) (t : Tg) : WI w0 K Z ex { s with tag := ext s.tag w.heap.size t } w := h.ret (fun _ hk _ => ext_old hk)
theorem WI.lt (h : WI w0 K Z ex s w) : Z < w.heap.size := lt_of_row h.blk
theorem WI.cell (h : WI w0 K Z ex s w) (j : Nat) : w.cell? ⟨Z, j, none⟩ = s.cs[j]? := cell_of_row w Z j _ 30 (0, 0) h.blk
theorem SOk.mono {i : Nat} {x : Sd} {tag : Nat → Tg} {K' : Nat} (h : SOk K tag i x w) (hk : K ≤ K') : SOk K' tag i x w := ⟨h.dat, h.rat, h.ok, h.rel, ⟨h.ac.1, by have := h.ac.2; omega⟩, h.td, h.tr⟩
theorem WI.mono {K' : Nat} (h : WI w0 K Z ex s w) (hk : K ≤ K') : WI w0 K' Z ex s w :=
  ⟨h.blk, h.tz, h.rl, h.tl, fun i x hx hi => (h.so i x hx hi).mono hk, h.b1, h.u1, h.d1, h.b2, h.u2, h.d2, h.e1, h.e2, by have := h.n1; omega, by have := h.n2; omega, by have := h.ns; omega, h.rh, h.th, h.old, h.told⟩
/-- A side is taken out, and put back. -/
theorem WI.open (h : WI w0 K Z none s w) (i : Nat) : WI w0 K Z (some i) s w :=
  ⟨h.blk, h.tz, h.rl, h.tl, fun j x hx _ => h.so j x hx (by simp), h.b1, h.u1, h.d1, h.b2, h.u2, h.d2, h.e1, h.e2, h.n1, h.n2, h.ns, h.rh, h.th, h.old, h.told⟩
theorem WI.close {i : Nat} {x x' : Sd} (h : WI w0 K Z (some i) s w) (hx : s.sd[i]? = some x) (h1 : x'.D = x.D) (h2 : x'.X = x.X) (hs : SOk K s.tag i x' w) : WI w0 K Z none { s with sd := s.sd.set i x' } w := by
  refine ⟨h.blk, h.tz, ?_, h.tl, fun j y hy _ => ?_, h.b1, h.u1, h.d1, h.b2, h.u2, h.d2, h.e1, h.e2, h.n1, h.n2, by simp; exact h.ns, h.rh, h.th, h.old, h.told⟩
  · show World.ownsRow w 0 40 2 s.vl (s.sd.set i x').length (cellsS (s.sd.set i x'))
    rw [List.length_set, cellsS_set _ _ _ _ hx h1 h2]
    exact h.rl
  · have hy' : (s.sd.set i x')[j]? = some y := hy
    by_cases e : j = i
    · subst e
      have hl : j < s.sd.length := (List.getElem?_eq_some_iff.1 hx).1
      rw [List.getElem?_set_self hl] at hy'
      cases hy'
      exact hs
    · rw [List.getElem?_set_ne (Ne.symm e)] at hy'
      exact h.so j y hy' (fun q => e (by cases q; rfl))
end
end Go.Proofs.Ytpelmacblglhoaa
