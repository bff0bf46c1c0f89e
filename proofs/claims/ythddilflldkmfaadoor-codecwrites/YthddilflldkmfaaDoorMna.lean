import Derived.Test.YthddilflldkmfaaDoorZwc
import Derived.Test.YthddilflldkmfaaDoorZnu
import Derived.Test.YthddilflldkmfaaDoorItma
namespace Go.Proofs.YthddilflldkmfaaDoor
open Go.RowKit Go.Lib
/-- A number as one of the six kinds. -/
def cvt (kd : Nat) (z : Int) : Int := match kd with
  | 1 => IntKind.i32.wrap z
  | 3 => IntKind.u8.wrap z
  | 4 => IntKind.u16.wrap z
  | 5 => IntKind.u32.wrap z
  | _ => z
theorem cvt_fit (kd : Nat) (z : Int) (h : -9223372036854775808 ≤ z ∧ z ≤ 9223372036854775807) : -9223372036854775808 ≤ cvt kd z ∧ cvt kd z ≤ 9223372036854775807 := by
  unfold cvt
  split
  · rw [IntKind.wrap_i32]; omega
  · rw [IntKind.wrap_u8]; omega
  · rw [IntKind.wrap_u16]; omega
  · rw [IntKind.wrap_u32]; omega
  · exact h
/-- The document's Writer behind numbers. -/
def zNums (X : List UInt8) (E : Nat) (size : Int) (zs : List Int) : List UInt8 × Nat := zs.foldl (fun p z => zPut p.1 p.2 (numE size z) (numY size z)) (X, E)
theorem zNums_next (X : List UInt8) (E : Nat) (size : Int) (zs : List Int) (k : Nat) (h : k < zs.length) : zNums X E size (zs.take (k + 1)) = zPut (zNums X E size (zs.take k)).1 (zNums X E size (zs.take k)).2 (numE size (zs.getD k 0)) (numY size (zs.getD k 0)) := by
  have e : zs.take (k + 1) = zs.take k ++ [zs.getD k 0] := by
    rw [List.take_succ_eq_append_getElem h]
    simp [h]
  unfold zNums
  rw [e, List.foldl_append]
  rfl
theorem zPut_len (X : List UInt8) (E : Nat) (size z : Int) : (zPut X E (numE size z) (numY size z)).1.length ≤ X.length + 8 := by
  unfold zPut
  by_cases h : numE size z = 0
  · have : 1 ≤ size ∧ size ≤ 8 := by
      by_cases q : 1 ≤ size ∧ size ≤ 8
      · exact q
      · exact absurd (by simp [numE, q] : numE size z ≠ 0) (by simpa using h)
    simp [h, numY, be_len]
    omega
  · simp [h]
theorem zNums_len (X : List UInt8) (E : Nat) (size : Int) (zs : List Int) (k : Nat) (h : k ≤ zs.length) : (zNums X E size (zs.take k)).1.length ≤ X.length + 8 * k := by
  induction k with
  | zero => simp [zNums]
  | succ k ih =>
    rw [zNums_next X E size zs k (by omega)]
    have h1 := ih (by omega)
    have h2 := zPut_len (zNums X E size (zs.take k)).1 (zNums X E size (zs.take k)).2 size (zs.getD k 0)
    omega
/-- The list of a step. -/
structure Lz (x : Ro) (zs : List Int) (w : World) : Prop where
  len : x.ln = zs.length
  cell : 0 < x.ln → ∃ g q, x.lp = some ⟨g, q, none⟩ ∧ ∀ j, j < x.ln → w.cell? ⟨g, q + j, none⟩ = some (.int .i64 (zs.getD j 0))
  fit : ∀ z ∈ zs, -9223372036854775808 ≤ z ∧ z ≤ 9223372036854775807
  nil : x.lp = none → x.lc = 0
theorem Lz.keep {x : Ro} {zs : List Int} {w w' : World} (h : Lz x zs w) (hb : ∀ g q, x.lp = some ⟨g, q, none⟩ → g < w.heap.size → w'.heap[g]? = w.heap[g]?) : Lz x zs w' := by
  refine ⟨h.len, fun h0 => ?_, h.fit, h.nil⟩
  obtain ⟨g, q, e, hc⟩ := h.cell h0
  exact ⟨g, q, e, fun j hj => (World.cell?_of_block (hb g q e (block_lt_of_cell (hc j hj)))).trans (hc j hj)⟩
theorem Lz.keepP {x : Ro} {zs : List Int} {w w' : World} (h : Lz x zs w) (hb : 0 < x.ln → ∀ g q, x.lp = some ⟨g, q, none⟩ → g < w.heap.size → w'.heap[g]? = w.heap[g]?) : Lz x zs w' := by
  refine ⟨h.len, fun h0 => ?_, h.fit, h.nil⟩
  obtain ⟨g, q, e, hc⟩ := h.cell h0
  exact ⟨g, q, e, fun j hj => (World.cell?_of_block (hb h0 g q e (block_lt_of_cell (hc j hj)))).trans (hc j hj)⟩
theorem Lz.below {x : Ro} {zs : List Int} {w w' : World} (h : Lz x zs w) (k : Below w.heap.size w w') : Lz x zs w' := h.keep (fun g _ _ hg => k.block g hg)
/-- What both Writers become. -/
def MTo (b : Nat) (v : Value) (z : Nat) (p q : List UInt8 × Nat) (w w' : World) : Prop :=
  ∃ v', WAt b v' p.1 p.2 w' ∧ ZAt z q.1 q.2 w' ∧ Only (fun k => foot b v k ∨ k = z) w w' ∧ ∀ k, v'.ownBlock = some k → v.ownBlock = some k ∨ w.heap.size ≤ k
/-- Numbers of which the first k are laid. -/
def fil (K : IntKind) (cs : List Int) (k : Nat) : List Value := (cs.take k).map (Value.int K) ++ List.replicate (cs.length - k) (.int K 0)
theorem fil_zero (K : IntKind) (cs : List Int) : fil K cs 0 = List.replicate cs.length (.int K 0) := by simp [fil]
theorem fil_step (K : IntKind) (cs : List Int) (k : Nat) (h : k < cs.length) : (fil K cs k).set k (.int K (cs.getD k 0)) = fil K cs (k + 1) := by
  unfold fil
  have e : cs.take (k + 1) = cs.take k ++ [cs.getD k 0] := by
    rw [List.take_succ_eq_append_getElem h]
    simp [h]
  have hl : ((cs.take k).map (Value.int K)).length = k := by simp; omega
  rw [List.set_append_right _ _ (by omega), hl, Nat.sub_self, show cs.length - k = (cs.length - (k + 1)) + 1 by omega, List.replicate_succ, List.set_cons_zero, e]
  simp
theorem fil_len (K : IntKind) (cs : List Int) (k : Nat) (h : k ≤ cs.length) : (fil K cs k).length = cs.length := by
  unfold fil
  simp
  omega
theorem fil_at (K : IntKind) (cs : List Int) (j : Nat) (h : j < cs.length) : (fil K cs cs.length)[j]? = some (.int K (cs.getD j 0)) := by
  unfold fil
  simp [h]
theorem setRow_heap' (w : World) (g : Nat) (cur : Array Value) (t : TypeId) (new : Array Value) (h : w.heap[g]? = some (.cells cur t (0, 0))) : (w.setRow g new).heap[g]? = some (.cells new t (0, 0)) := by
  unfold World.setRow
  simp [Array.getElem?_modify, h]
theorem setRow_other' (w : World) (g k : Nat) (new : Array Value) (h : k ≠ g) : (w.setRow g new).heap[k]? = w.heap[k]? := by
  unfold World.setRow
  simp [Array.getElem?_modify, Ne.symm h]
/-- copy of numbers into a block of one's own. -/
theorem copyI {ops : Array Oper} {rest : List Oper} {o : Oper} {a : Act} {w : World} {Q : Exit → Act → World → Prop} (hgd : o.guard = none) (d s : Operand)
    (ho : o.op = .call { callee := .builtin .copy, args := #[d, s], argTypes := #[31, 31] }) (g dn dcap : Nat) (sp : Option Addr) (sn scap : Nat) (hd : a.eval d = .slice (some ⟨g, 0, none⟩) dn dcap) (hs : a.eval s = .slice sp sn scap)
    (xs : List Value) (cs : List Int) (hb : Rw 3 g xs w) (hsn : sn = cs.length) (hc : 0 < sn → ∃ p q, sp = some ⟨p, q, none⟩ ∧ ∀ j, j < sn → w.cell? ⟨p, q + j, none⟩ = some (.int .i64 (cs.getD j 0))) (hnone : sp = none → scap = 0) (hdn : sn ≤ dn) (hfit : sn ≤ xs.length)
    (h : ∀ w', Rw 3 g (cs.map (Value.int .i64) ++ xs.drop sn) w' → Only (fun q => q = g) w w' → wpList Tryd.prog ops Q rest (a.put o.dst (goInt (sn : Nat))) w') : wpList Tryd.prog ops Q (o :: rest) a w := by
  refine wpList_plain hgd fun K hK => ?_
  have key : ∃ w', (Builtin.copy_ #[31, 31] o.type #[.slice (some ⟨g, 0, none⟩) dn dcap, .slice sp sn scap]).run Tryd.prog w = .ok (goInt (sn : Nat)) w' ∧ Rw 3 g (cs.map (Value.int .i64) ++ xs.drop sn) w' ∧ Only (fun q => q = g) w w' := by
    cases sp with
    | none =>
      have h0 : sn = 0 := by
        rcases Nat.eq_zero_or_pos sn with h0 | h0
        · exact h0
        · obtain ⟨p, q, e, _⟩ := hc h0
          cases e
      have hsc := hnone rfl
      subst hsc
      have hcs : cs = [] := List.eq_nil_of_length_eq_zero (by omega)
      subst h0 hcs
      refine ⟨w, ?_, ?_, Only.refl _ _⟩
      · exact run_copy_nil (P := Tryd.prog) w 31 31 o.type 3 ⟨g, 0, none⟩ dn dcap Tryd.underlying31 (by kernel_rfl)
      · simpa using hb
    | some ad =>
      have hrun := run_copy_row (P := Tryd.prog) w 31 31 o.type 3 g 0 dn dcap ad sn scap xs.toArray 3 (cs.map (Value.int .i64)) Tryd.underlying31 (by kernel_rfl) hb (by rw [List.length_map, ← hsn]; exact (Nat.min_eq_left hdn).symm) (by
        intro j v hv
        have hj : j < cs.length := by
          have := (List.getElem?_eq_some_iff.1 hv).1
          simpa using this
        obtain ⟨p, q, e, hcells⟩ := hc (by omega)
        cases e
        have hadd : (⟨p, q, none⟩ : Addr).add j = ⟨p, q + j, none⟩ := by unfold Addr.add; split <;> simp_all
        rw [hadd, hcells j (by omega)]
        rw [List.getElem?_map, List.getElem?_eq_getElem hj] at hv
        rw [← hv]
        simp [hj]) (by simp; omega) (by
        intro v hv
        obtain ⟨z, _, rfl⟩ := List.mem_map.1 hv
        rfl)
      have hl : (cs.map (Value.int .i64)).length = sn := by simp [hsn]
      rw [hl] at hrun
      refine ⟨_, hrun, ?_, ⟨rfl, rfl, rfl, by simp [World.setRow], fun k hk hp => setRow_other' w g k _ hp⟩⟩
      unfold Rw
      rw [setRow_heap' w g _ _ _ hb]
      simp
  obtain ⟨w', hrun, hb', hk⟩ := key
  unfold Oper.wp
  simp [execOp, ho, resolve, invoke, builtin, hd, hs, hrun, Result.andThen]
  exact hK _ _ (h w' hb' hk)
/-- A region that holds one call, its c-th operation. -/
def WdC (c : Nat) (Post : World → Prop) (w : World) (L : Nat → Bool) (W : World) : Prop := (L c = true ∧ Post W) ∨ (L c = false ∧ ∃ n, W = w.drewN n)
theorem WdC.start (c : Nat) (Post : World → Prop) (w : World) : WdC c Post w (fun _ => false) w.drew := .inr ⟨rfl, 1, rfl⟩
theorem WdC.pure {c : Nat} {Post : World → Prop} {w : World} {L : Nat → Bool} {W : World} (h : WdC c Post w L W) (i : Nat) (hi : i ≠ c) : WdC c Post w (upd L i) W := by
  have e : upd L i c = L c := by simp [upd, Ne.symm hi]
  unfold WdC
  rw [e]
  exact h
theorem WdC.block {c : Nat} {Post : World → Prop} {w : World} {L : Nat → Bool} {W : World} {P : Nat → Prop} (h : WdC c Post w L W) (hP : ∀ W, Post W → Only P w W) (g : Nat) (hg : g < w.heap.size) (hn : ¬ P g) : W.heap[g]? = w.heap[g]? := by
  rcases h with ⟨_, q⟩ | ⟨_, n, rfl⟩
  · exact (hP W q).block g hg hn
  · rfl
theorem WdC.call {c : Nat} {Post : World → Prop} {w : World} {L : Nat → Bool} {W : World} (h : WdC c Post w L W) (hc : L c = false) : ∃ n, W = w.drewN n := by
  rcases h with ⟨q, _⟩ | ⟨_, q⟩
  · rw [hc] at q; cases q
  · exact q
theorem WdC.done {c : Nat} {Post : World → Prop} {w : World} {L : Nat → Bool} {W : World} (h : WdC c Post w L W) (hc : L c = true) : Post W := by
  rcases h with ⟨_, q⟩ | ⟨q, _⟩
  · exact q
  · rw [hc] at q; cases q
theorem WdC.post {c : Nat} {Post : World → Prop} {w : World} {L : Nat → Bool} {W : World} (h : Post W) : WdC c Post w (upd L c) W := .inl ⟨by simp [upd], h⟩
/-- A region without a call that reads its slot and writes it in the end. -/
def WdL (m : Nat) (w : World) (L : Nat → Bool) (W : World) : Prop := (∃ n, W = w.drewN n) ∧ (L m = true → L 0 = true)
theorem WdL.start (m : Nat) (w : World) : WdL m w (fun _ => false) w.drew := ⟨⟨1, rfl⟩, fun q => by cases q⟩
theorem WdL.step {m : Nat} {w : World} {L : Nat → Bool} {W : World} (h : WdL m w L W) (i : Nat) (hi : i ≠ m) : WdL m w (upd L i) W :=
  ⟨h.1, fun q => updl_of (h.2 (by simpa [upd, Ne.symm hi] using q))⟩
theorem ZTo.of_drewN {z : Nat} {X : List UInt8} {E n : Nat} {w w' : World} (h : ZTo z X E (w.drewN n) w') : ZTo z X E w w' := ⟨h.1, h.2.os, h.2.tape, h.2.output, h.2.size, h.2.block⟩
theorem WTo.of_drewN {b : Nat} {v : Value} {X : List UInt8} {E n : Nat} {w w' : World} (h : WTo b v X E (w.drewN n) w') : WTo b v X E w w' := by
  obtain ⟨v', h1, h2, h3⟩ := h
  exact ⟨v', h1, ⟨h2.os, h2.tape, h2.output, h2.size, h2.block⟩, h3⟩
end Go.Proofs.YthddilflldkmfaaDoor
