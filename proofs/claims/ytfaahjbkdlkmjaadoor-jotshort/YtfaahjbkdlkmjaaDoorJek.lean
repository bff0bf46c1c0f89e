import Derived.Test.YtfaahjbkdlkmjaaDoorJej
import Derived.Maps.AppendAt
/- Jot: what a value that is made stands on; rows of values of one's own. -/
namespace Go.Proofs.YtfaahjbkdlkmjaaDoor
open Go Go.RowKit Go.Lib
set_option linter.unusedVariables false
set_option linter.unusedSimpArgs false
theorem info25 : (Tryd.prog.info? 25).map (fun i => (i.zero, i.size, i.bytes)) = some (some (.agg #[I 0, I 0, .string ⟨#[]⟩, .slice none 0 0, .slice none 0 0]), 5, 80) := by kernel_rfl
theorem info_all {e : TypeId} {z : Value} {sz bys : Nat} (hinfo : (Tryd.prog.info? e).map (fun i => (i.zero, i.size, i.bytes)) = some (some z, sz, bys)) : ∃ i, Tryd.prog.info? e = some i ∧ i.zero = some z ∧ i.size = sz ∧ i.bytes = bys := by
  obtain ⟨i, hi, hx⟩ := Option.map_eq_some_iff.1 hinfo
  simp only [Prod.mk.injEq] at hx
  exact ⟨i, hi, hx.1, hx.2.1, hx.2.2⟩
theorem cell_blk {w W : World} {a : Addr} (h : W.heap[a.block]? = w.heap[a.block]?) : W.cell? a = w.cell? a := by
  unfold World.cell?
  rw [h]
/-- Names that stand on blocks of D. -/
def ND (W : World) (D : Nat → Prop) (a : Option Addr) (ns : List Bs) : Prop :=
  Nms W a ns ∧ (0 < ns.length → ∀ p, a = some p → D p.block)
mutual
/-- The parts of a value, on blocks of D. -/
def JD (W : World) (D : Nat → Prop) (na xa : Option Addr) : J → Prop
  | .mk k n t ns xs => t.length ≤ 9223372036854775807 ∧ ND W D na ns ∧ xs.length ≤ 9223372036854775807 ∧ (0 < xs.length → ∃ b o, xa = some ⟨b, o, none⟩ ∧ D b ∧ JDs W D b o xs)
def JDs (W : World) (D : Nat → Prop) (b : Nat) : Nat → List J → Prop
  | _, [] => True
  | o, .mk k n t ns xs :: l => (∃ na nc xa xc, (∀ i v, (cellsJ k n t na ns.length nc xa xs.length xc)[i]? = some v → W.cell? ⟨b, o + i, none⟩ = some v) ∧ JD W D na xa (.mk k n t ns xs)) ∧ JDs W D b (o + 5) l
end
mutual
theorem JD.to {W : World} {D : Nat → Prop} : ∀ (j : J) {na xa : Option Addr}, JD W D na xa j → JP W na xa j
  | .mk k n t ns xs, na, xa, h => by
    rw [JD] at h
    rw [JP]
    obtain ⟨h1, h2, h3, h4⟩ := h
    refine ⟨h1, h2.1, h3, fun h0 => ?_⟩
    obtain ⟨b, o, e, -, h5⟩ := h4 h0
    exact ⟨b, o, e, JDs.to xs h5⟩
theorem JDs.to {W : World} {D : Nat → Prop} : ∀ (l : List J) {b o : Nat}, JDs W D b o l → JsP W b o l
  | [], _, _, _ => by rw [JsP]; trivial
  | .mk k n t ns xs :: l, b, o, h => by
    rw [JDs] at h
    rw [JsP]
    obtain ⟨⟨na, nc, xa, xc, h1, h2⟩, h3⟩ := h
    exact ⟨⟨na, nc, xa, xc, h1, JD.to _ h2⟩, JDs.to l h3⟩
end
theorem ND.keep {W W' : World} {D D' : Nat → Prop} {a : Option Addr} {ns : List Bs} (h : ND W D a ns) (hk : ∀ k, D k → W'.heap[k]? = W.heap[k]?) (hD : ∀ k, D k → D' k) : ND W' D' a ns := by
  refine ⟨⟨h.1.1, h.1.2.1, fun h0 => ?_⟩, fun h0 p e => hD _ (h.2 h0 p e)⟩
  obtain ⟨p, q, e, hc⟩ := h.1.2.2 h0
  exact ⟨p, q, e, fun k x hx => (cell_blk (hk p (h.2 h0 _ e))).trans (hc k x hx)⟩
mutual
theorem JD.keep {W W' : World} {D D' : Nat → Prop} (hk : ∀ k, D k → W'.heap[k]? = W.heap[k]?) (hD : ∀ k, D k → D' k) : ∀ (j : J) {na xa : Option Addr}, JD W D na xa j → JD W' D' na xa j
  | .mk k n t ns xs, na, xa, h => by
    rw [JD] at h ⊢
    obtain ⟨h1, h2, h3, h4⟩ := h
    refine ⟨h1, h2.keep hk hD, h3, fun h0 => ?_⟩
    obtain ⟨b, o, e, hb, h5⟩ := h4 h0
    exact ⟨b, o, e, hD b hb, JDs.keep hk hD hb xs h5⟩
theorem JDs.keep {W W' : World} {D D' : Nat → Prop} (hk : ∀ k, D k → W'.heap[k]? = W.heap[k]?) (hD : ∀ k, D k → D' k) {b : Nat} (hb : D b) : ∀ (l : List J) {o : Nat}, JDs W D b o l → JDs W' D' b o l
  | [], _, _ => by rw [JDs]; trivial
  | .mk k n t ns xs :: l, o, h => by
    rw [JDs] at h ⊢
    obtain ⟨⟨na, nc, xa, xc, h1, h2⟩, h3⟩ := h
    exact ⟨⟨na, nc, xa, xc, fun i v hi => (cell_blk (hk b hb)).trans (h1 i v hi), JD.keep hk hD _ h2⟩, JDs.keep hk hD hb l h3⟩
end
/-- A value that is made, where its lists lie. -/
structure It where
  j : J
  na : Option Addr
  nc : Nat
  xa : Option Addr
  xc : Nat
def It.cells (x : It) : List Value := cellsJ x.j.k x.j.n x.j.t x.na x.j.ns.length x.nc x.xa x.j.xs.length x.xc
def It.clo (x : It) : Prop := Clo x.j.k x.j.n x.j.t x.na x.j.ns.length x.nc x.xa x.j.xs.length x.xc
def It.val (x : It) : Value := opn x.j.k x.j.n x.j.t x.na x.j.ns.length x.nc x.xa x.j.xs.length x.xc
def It.agg (x : It) : Value := vJ x.j.k x.j.n x.j.t x.na x.j.ns.length x.nc x.xa x.j.xs.length x.xc
theorem It.cells_len (x : It) : x.cells.length = 5 := rfl
theorem its_len (l : List It) : (l.flatMap It.cells).length = l.length * 5 := by
  induction l with
  | nil => rfl
  | cons a l ih => rw [List.flatMap_cons, List.length_append, ih, It.cells_len, List.length_cons]; omega
/-- A row of values of one's own. -/
def Row (B : Nat) (w : World) (v : Value) (its : List It) : Prop :=
  w.ownsRow B 25 5 v its.length (its.flatMap It.cells) ∧ ∀ x ∈ its, JD w (fun k => B ≤ k ∧ k < w.heap.size ∧ v.ownBlock ≠ some k) x.na x.xa x.j
theorem Row.nil (B : Nat) (w : World) : Row B w (.slice none 0 0) [] := ⟨World.ownsRow_nil _ _ _ _, fun x hx => absurd hx (by simp)⟩
theorem Row.lt {B : Nat} {w : World} {v : Value} {its : List It} (h : Row B w v its) : ∀ k, v.ownBlock = some k → B ≤ k ∧ k < w.heap.size := h.1.lt
theorem Row.onl {B b : Nat} {w w' : World} {v : Value} {its : List It} (h : Row B w v its) (ho : Onl b w w') (hb : b < B) : Row B w' v its := by
  refine ⟨⟨h.1.1, ?_⟩, fun x hx => JD.keep (fun k hk => ho.block k hk.2.1 (by omega)) (fun k hk => ⟨hk.1, Nat.lt_of_lt_of_le hk.2.1 ho.size, hk.2.2⟩) _ (h.2 x hx)⟩
  rcases h.1.2 with hn | ⟨g, cap, cur, hv, hbg, hg, rest⟩
  · exact .inl hn
  · have hgl : g < w.heap.size := (Array.getElem?_eq_some_iff.1 hg).1
    exact .inr ⟨g, cap, cur, hv, hbg, (ho.block g hgl (by omega)).trans hg, rest⟩
theorem row_items {W : World} {D : Nat → Prop} {b : Nat} : ∀ (l : List It) (o : Nat), (∀ i v, (l.flatMap It.cells)[i]? = some v → W.cell? ⟨b, o + i, none⟩ = some v) → (∀ x ∈ l, JD W D x.na x.xa x.j) → JDs W D b o (l.map It.j)
  | [], _, _, _ => by rw [List.map_nil, JDs]; trivial
  | ⟨.mk k n t ns xs, na, nc, xa, xc⟩ :: l, o, h, hd => by
    rw [List.map_cons, JDs]
    refine ⟨⟨na, nc, xa, xc, fun i v hi => h i v ?_, hd ⟨.mk k n t ns xs, na, nc, xa, xc⟩ (by simp)⟩, row_items l (o + 5) (fun i v hi => ?_) (fun x hx => hd x (by simp [hx]))⟩
    · rw [List.flatMap_cons, List.getElem?_append_left (by
        have := (List.getElem?_eq_some_iff.1 hi).1
        exact this)]
      exact hi
    · rw [show o + 5 + i = o + (i + 5) by omega]
      refine h (i + 5) v ?_
      rw [List.flatMap_cons, List.getElem?_append_right (by rw [It.cells_len]; omega), It.cells_len]
      simpa using hi
/-- What a row comes to. -/
theorem Row.out {B : Nat} {w : World} {v : Value} {its : List It} (h : Row B w v its) : ∃ xa xc, v = .slice xa its.length xc ∧ its.length ≤ maxLen ∧
    (0 < its.length → ∃ b o, xa = some ⟨b, o, none⟩ ∧ (B ≤ b ∧ b < w.heap.size) ∧ JDs w (fun k => B ≤ k ∧ k < w.heap.size) b o (its.map It.j)) := by
  have hcells := @World.ownsRow.cells _ _ _ _ _ _ _ h.1
  have hlt := h.lt
  rcases h.1.2 with ⟨hv, hn⟩ | ⟨g, cap, cur, hv, hbg, hg, hnc, hcm, hcs, htake⟩
  · exact ⟨none, 0, by rw [hv, hn], by omega, fun h0 => by omega⟩
  · refine ⟨some ⟨g, 0, none⟩, cap, hv, by omega, fun h0 => ⟨g, 0, rfl, hlt g (by rw [hv]; rfl), ?_⟩⟩
    refine JDs.keep (D := fun k => B ≤ k ∧ k < w.heap.size) (fun k _ => rfl) (fun k hk => hk) (hlt g (by rw [hv]; rfl)) _ ?_
    refine row_items its 0 (fun i u hu => ?_) (fun x hx => JD.keep (fun k _ => rfl) (fun k hk => ⟨hk.1, hk.2.1⟩) _ (h.2 x hx))
    have := hcells (g := g) (by rw [hv]; rfl) i u hu
    have e : (⟨g, 0, none⟩ : Addr).add i = ⟨g, 0 + i, none⟩ := by unfold Addr.add; split <;> simp_all
    rw [e] at this
    exact this
theorem cells_new (w : World) (l : List Value) (t : TypeId) : ∀ j u, l[j]? = some u → (w.alloc (.cells l.toArray t)).cell? ((⟨w.heap.size, 0, none⟩ : Addr).add j) = some u := by
  intro j u h
  have e : (⟨w.heap.size, 0, none⟩ : Addr).add j = ⟨w.heap.size, 0 + j, none⟩ := by unfold Addr.add; split <;> simp_all
  rw [e, Lib.cell_of_heap (heap_alloc_new w _)]
  simpa using h
theorem It.one (x : It) : ∀ u ∈ x.cells, u.oneCell' = true := by
  intro u hu
  unfold It.cells cellsJ at hu
  simp only [List.mem_cons, List.not_mem_nil, or_false] at hu
  rcases hu with rfl | rfl | rfl | rfl | rfl <;> rfl
/-- One more value at the end of a row of one's own. -/
theorem pushJ {ops : Array Oper} {rest : List Oper} {o : Oper} {a : Act} {Q : Exit → Act → World → Prop} (T : TypeId) (hT : Tryd.prog.underlying T = some (.slice 25)) (hgd : o.guard = none) (s x : Operand)
    (ho : o.op = .call { callee := .builtin .append, args := #[s, x], argTypes := #[T, T] }) (B : Nat) (v : Value) (its : List It) (hs : a.eval s = v) (w0 : World) (hrow : Row B w0 v its) (it : It) (hit : JD w0 (fun k => B ≤ k ∧ k < w0.heap.size ∧ v.ownBlock ≠ some k) it.na it.xa it.j)
    (hx : a.eval x = .slice (some ⟨w0.heap.size, 0, none⟩) 1 1) (hn : its.length ≤ 1000000000) (hB : B ≤ w0.heap.size)
    (h : ∀ v' w', Row B w' v' (its ++ [it]) → Below B w0 w' → wpList Tryd.prog ops Q rest (a.put o.dst v') w') : wpList Tryd.prog ops Q (o :: rest) a (w0.alloc (.cells it.cells.toArray 25)) := by
  obtain ⟨i0, hi, hz0, hz1, hz2⟩ := info_all info25
  have hlt := hrow.lt
  refine wpList_append_own_at _ hgd s x T ho B 25 i0 _ 5 80 hT hi hz0 hz1 hz2 rfl (by decide) v its.length (its.flatMap It.cells) hs (World.ownsRow.alloc hrow.1 _) ⟨w0.heap.size, 0, none⟩ 1 1 it.cells hx (by rw [It.cells_len]) (cells_new _ _ _) it.one (by unfold maxLen; omega) (by omega) (by simp; omega) ?_
  intro v' w' ho' hg' _ hat
  have hsz : w0.heap.size + 1 ≤ w'.heap.size := by have := hg'.size; simpa using this
  have hkeep : ∀ k, k < w0.heap.size → v.ownBlock ≠ some k → w'.heap[k]? = w0.heap[k]? := fun k hk hne =>
    (hg'.block k (by simp; omega) (fun e => hne e.symm)).trans (heap_alloc_old w0 _ hk)
  have hv' : ∀ k, k < w0.heap.size → v.ownBlock ≠ some k → v'.ownBlock ≠ some k := by
    intro k hk hne e
    rcases hat with q | q
    · exact hne (q ▸ e)
    · rw [q] at e
      simp at e
      omega
  refine h v' w' ⟨by simpa using ho', fun y hy => ?_⟩ ?_
  · rcases List.mem_append.1 hy with hy | hy
    · exact JD.keep (fun k hk => hkeep k hk.2.1 hk.2.2) (fun k hk => ⟨hk.1, by have := hk.2.1; omega, hv' k hk.2.1 hk.2.2⟩) _ (hrow.2 y hy)
    · rw [List.mem_singleton] at hy
      subst hy
      exact JD.keep (fun k hk => hkeep k hk.2.1 hk.2.2) (fun k hk => ⟨hk.1, by have := hk.2.1; omega, hv' k hk.2.1 hk.2.2⟩) _ hit
  · refine ⟨hg'.os, hg'.tape, hg'.output, by omega, fun k hk => hkeep k (by omega) (fun e => ?_)⟩
    have := (hlt k e).1
    omega
end Go.Proofs.YtfaahjbkdlkmjaaDoor
