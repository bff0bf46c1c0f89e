import Derived.Test.YthddilflldkmfaaDoorMnb
import Derived.Test.YthddilflldkmfaaDoorMnc
import Derived.Test.YthddilflldkmfaaDoorDone
import Derived.Test.YthddilflldkmfaaDoorAwak
namespace Go.Proofs.YthddilflldkmfaaDoor
open Go.RowKit Go.Lib
/-- Two Writers that tell the same. -/
def Agr (p q : List UInt8 × Nat) : Prop := p.2 = q.2 ∧ (p.2 = 0 → p.1 = q.1)
theorem agr_put {X X2 : List UInt8} {E E2 : Nat} (h : Agr (X, E) (X2, E2)) (e : Nat) (Y : List UInt8) : Agr (wPut X E e Y) (zPut X2 E2 e Y) := by
  obtain ⟨h1, h2⟩ := h
  simp only at h1 h2
  subst h1
  unfold Agr wPut zPut
  by_cases hE : E = 0
  · subst hE
    rw [h2 rfl]
    by_cases he : e = 0
    · simp [he]
    · simp [he]
  · simp only [ne_eq, hE, not_false_eq_true, if_true]
    exact ⟨by split <;> rfl, fun q => q.elim⟩
theorem agr_nums {X X2 : List UInt8} {E E2 : Nat} (size : Int) (zs : List Int) (h : Agr (X, E) (X2, E2)) : Agr (wNums X E size zs) (zNums X2 E2 size zs) := by
  unfold wNums zNums
  suffices ∀ (zs : List Int) (p q : List UInt8 × Nat), Agr p q → Agr (zs.foldl (fun p z => wPut p.1 p.2 (numE size z) (numY size z)) p) (zs.foldl (fun p z => zPut p.1 p.2 (numE size z) (numY size z)) q) from this zs _ _ h
  intro zs
  induction zs with
  | nil => exact fun p q h => h
  | cons z zs ih => exact fun p q h => ih _ _ (agr_put h _ _)
theorem agr_done {p q : List UInt8 × Nat} (h : Agr p q) : (wDone p.1 p.2).1 = (if q.2 = 0 then q.1 else []) ∧ (wDone p.1 p.2).2 = q.2 := by
  obtain ⟨h1, h2⟩ := h
  unfold wDone
  by_cases hE : p.2 = 0
  · rw [if_pos hE, ← h1, if_pos hE]
    exact ⟨h2 hE, hE.symm⟩
  · rw [if_neg hE, ← h1, if_neg hE]
    exact ⟨rfl, rfl⟩
theorem many_any (b : Nat) (v : Value) (X : List UInt8) (E z : Nat) (X2 : List UInt8) (E2 : Nat) (x : Ro) (zs : List Int) (w : World) (h : WAt b v X E w) (h2 : ZAt z X2 E2 w) (hL : Lz x zs w) (hfit : x.Fit) (hz : ¬ foot b v z) (hl : 0 < x.ln → ∀ g q, x.lp = some ⟨g, q, none⟩ → ¬ foot b v g ∧ g ≠ z) (hX : X.length + 8 * x.ln ≤ 70368744177664) (hX2 : X2.length + 8 * x.ln ≤ 900000000000) (hln : x.ln ≤ 1000000000) :
    Calls Tryd.prog 19 #[.pointer (some ⟨b, 0, none⟩), .pointer (some ⟨z, 0, none⟩), .agg #[.int .i64 x.kd, .int .i64 x.on, .int .i64 x.sz, .int .i64 x.nn, .string ⟨x.s.toArray⟩, .slice x.lp x.ln x.lc]] w fun e w' => e = .returned (.bool true) ∧ MTo b v z (wNums X E x.sz (zs.map (cvt (pk x.nn 6)))) (zNums X2 E2 x.sz (zs.map (cvt (pk x.nn 6)))) w w' := by
  have hk := pk_lt x.nn 6 (by decide)
  rcases (by omega : pk x.nn 6 = 0 ∨ pk x.nn 6 = 1 ∨ pk x.nn 6 = 2 ∨ pk x.nn 6 = 3 ∨ pk x.nn 6 = 4 ∨ pk x.nn 6 = 5) with e | e | e | e | e | e
  · have e0 : zs.map (cvt (pk x.nn 6)) = zs := by
      rw [e]
      conv => rhs; rw [← List.map_id zs]
      rfl
    rw [e0]
    exact many_0 b v X E z X2 E2 x zs w h h2 hL hfit e hz hl hX hX2 hln
  · rw [e]; exact many_1 b v X E z X2 E2 x zs w h h2 hL hfit e hz hl hX hX2 hln
  · rw [e]; exact many_2 b v X E z X2 E2 x zs w h h2 hL hfit e hz hl hX hX2 hln
  · rw [e]; exact many_3 b v X E z X2 E2 x zs w h h2 hL hfit e hz hl hX hX2 hln
  · rw [e]; exact many_4 b v X E z X2 E2 x zs w h h2 hL hfit e hz hl hX hX2 hln
  · rw [e]; exact many_5 b v X E z X2 E2 x zs w h h2 hL hfit e hz hl hX hX2 hln
/-- One call of each. -/
theorem MTo.of {b z : Nat} {v : Value} {p q : List UInt8 × Nat} {w w1 w2 : World} (h1 : WTo b v p.1 p.2 w w1) (h2 : ZTo z q.1 q.2 w1 w2) (hz : ¬ foot b v z) (hlt : z < w.heap.size) : MTo b v z p q w w2 := by
  obtain ⟨v', hA, hO, hF⟩ := h1
  refine ⟨v', hA.keep h2.2 (fun e => hz (.inl e.symm)) (fun k e1 e2 => ?_), h2.1, ?_, hF⟩
  · rcases hF k e1 with q | q
    · exact hz (.inr (by rw [← e2]; exact q))
    · omega
  · have o1 : Only (fun k => foot b v k ∨ k = z) w w1 := ⟨hO.os, hO.tape, hO.output, hO.size, fun k hk hn => hO.block k hk (fun f => hn (.inl f))⟩
    exact o1.trans h2.2 (fun _ _ e => .inr e)
/-- Two Writers and two of the document's. -/
structure Wtw (base : Nat) (B Z : Nat → Nat) (gw gx sg : Nat) (V : Nat → Value) (P Q : Nat → List UInt8 × Nat) (W : World) : Prop where
  wd : ∀ k, k < 2 → WAt (B k) (V k) (P k).1 (P k).2 W
  zd : ∀ k, k < 2 → ZAt (Z k) (Q k).1 (Q k).2 W
  cw : ∀ k, k < 2 → W.cell? ⟨gw, k, none⟩ = some (.pointer (some ⟨B k, 0, none⟩))
  cx : ∀ k, k < 2 → W.cell? ⟨gx, k, none⟩ = some (.pointer (some ⟨Z k, 0, none⟩))
  agr : ∀ k, k < 2 → Agr (P k) (Q k)
  vb : ∀ k q, k < 2 → (V k).ownBlock = some q → (∀ j, j < 2 → q ≠ B j ∧ q ≠ Z j) ∧ q ≠ gw ∧ q ≠ gx ∧ q ≠ sg ∧ base ≤ q ∧ ∀ j, j < 2 → j ≠ k → (V j).ownBlock ≠ some q
/-- Where they lie. -/
structure Wap (base : Nat) (B Z : Nat → Nat) (gw gx sg : Nat) : Prop where
  bb : ∀ i j, i < 2 → j < 2 → i ≠ j → B i ≠ B j
  zz : ∀ i j, i < 2 → j < 2 → i ≠ j → Z i ≠ Z j
  bz : ∀ i j, i < 2 → j < 2 → B i ≠ Z j
  bg : ∀ i, i < 2 → B i ≠ gw ∧ B i ≠ gx ∧ B i ≠ sg ∧ base ≤ B i
  zg : ∀ i, i < 2 → Z i ≠ gw ∧ Z i ≠ gx ∧ Z i ≠ sg ∧ base ≤ Z i
variable {base : Nat} {B Z : Nat → Nat} {gw gx sg : Nat} {V : Nat → Value} {P Q : Nat → List UInt8 × Nat} {W W' : World}
theorem Wtw.below (h : Wtw base B Z gw gx sg V P Q W) (hb : Below W.heap.size W W') : Wtw base B Z gw gx sg V P Q W' := by
  have ho : Only (fun _ => False) W W' := Only.of_below hb
  exact ⟨fun k hk => (h.wd k hk).keep ho (fun q => q) (fun _ _ q => q), fun k hk => (h.zd k hk).keep ho (fun q => q), fun k hk => (hb.cell (by exact block_lt_of_cell (h.cw k hk))).trans (h.cw k hk), fun k hk => (hb.cell (by exact block_lt_of_cell (h.cx k hk))).trans (h.cx k hk), h.agr, h.vb⟩
theorem Wtw.foot (h : Wtw base B Z gw gx sg V P Q W) (ap : Wap base B Z gw gx sg) (k : Nat) (hk : k < 2) : ¬ foot (B k) (V k) (Z k) ∧ ¬ Go.Proofs.YthddilflldkmfaaDoor.foot (B k) (V k) gw ∧ ¬ Go.Proofs.YthddilflldkmfaaDoor.foot (B k) (V k) gx ∧ ¬ Go.Proofs.YthddilflldkmfaaDoor.foot (B k) (V k) sg ∧ ∀ q, q < base → ¬ Go.Proofs.YthddilflldkmfaaDoor.foot (B k) (V k) q := by
  have h1 := ap.bg k hk
  refine ⟨?_, ?_, ?_, ?_, fun q hq => ?_⟩
  · rintro (q | q)
    · exact ap.bz k k hk hk q.symm
    · exact ((h.vb k _ hk q).1 k hk).2 rfl
  · rintro (q | q)
    · exact h1.1 q.symm
    · exact (h.vb k _ hk q).2.1 rfl
  · rintro (q | q)
    · exact h1.2.1 q.symm
    · exact (h.vb k _ hk q).2.2.1 rfl
  · rintro (q | q)
    · exact h1.2.2.1 q.symm
    · exact (h.vb k _ hk q).2.2.2.1 rfl
  · rintro (e | e)
    · omega
    · have := (h.vb k _ hk e).2.2.2.2.1
      omega
theorem Wtw.step (h : Wtw base B Z gw gx sg V P Q W) (ap : Wap base B Z gw gx sg) (hsg : sg < W.heap.size) (hbase : base ≤ W.heap.size) (k : Nat) (hk : k < 2) {p q : List UInt8 × Nat} (hag : Agr p q) (hm : MTo (B k) (V k) (Z k) p q W W') :
    ∃ v', Wtw base B Z gw gx sg (put1 V k v') (put1 P k p) (put1 Q k q) W' := by
  obtain ⟨v', hA, hZ, hO, hF⟩ := hm
  have hgw : gw < W.heap.size := block_lt_of_cell (h.cw 0 (by decide))
  have hgx : gx < W.heap.size := block_lt_of_cell (h.cx 0 (by decide))
  have hf := h.foot ap k hk
  have hb : ∀ j, j < 2 → B j < W.heap.size := fun j hj => lt_of_row (h.wd j hj).row
  have hz : ∀ j, j < 2 → Z j < W.heap.size := fun j hj => lt_of_row (h.zd j hj)
  have hv : ∀ j q, j < 2 → (V j).ownBlock = some q → q < W.heap.size := fun j q hj e => ((World.ownsRowF_of (h.wd j hj).own).lt q e).2
  refine ⟨v', ?_, ?_, ?_, ?_, ?_, ?_⟩
  · intro i hi
    unfold put1
    by_cases e : i = k
    · subst e; simpa using hA
    · simp only [if_neg e]
      refine (h.wd i hi).keep hO ?_ ?_
      · rintro ((q | q) | q)
        · exact ap.bb i k hi hk e q
        · exact ((h.vb k _ hk q).1 i hi).1 rfl
        · exact ap.bz i k hi hk q
      · rintro x hx ((q | q) | q)
        · exact ((h.vb i _ hi hx).1 k hk).1 q
        · exact (h.vb k _ hk q).2.2.2.2.2 i hi e hx
        · exact ((h.vb i _ hi hx).1 k hk).2 q
  · intro i hi
    unfold put1
    by_cases e : i = k
    · subst e; simpa using hZ
    · simp only [if_neg e]
      refine (h.zd i hi).keep hO ?_
      rintro ((q | q) | q)
      · exact ap.bz k i hk hi q.symm
      · exact ((h.vb k _ hk q).1 i hi).2 rfl
      · exact ap.zz i k hi hk e q
  · intro i hi
    refine (World.cell?_of_block (hO.block gw hgw ?_)).trans (h.cw i hi)
    rintro (q | q)
    · exact hf.2.1 q
    · exact (ap.zg k hk).1 q.symm
  · intro i hi
    refine (World.cell?_of_block (hO.block gx hgx ?_)).trans (h.cx i hi)
    rintro (q | q)
    · exact hf.2.2.1 q
    · exact (ap.zg k hk).2.1 q.symm
  · intro i hi
    unfold put1
    by_cases e : i = k
    · simpa [e] using hag
    · simpa [e] using h.agr i hi
  · intro i q hi hx
    unfold put1 at hx ⊢
    by_cases e : i = k
    · subst e
      simp only [if_true] at hx
      rcases hF q hx with e1 | e1
      · obtain ⟨a1, a2, a3, a4, a5, a6⟩ := h.vb i q hi e1
        exact ⟨a1, a2, a3, a4, a5, fun j hj hne => by rw [if_neg hne]; exact a6 j hj hne⟩
      · refine ⟨fun j hj => ⟨by have := hb j hj; omega, by have := hz j hj; omega⟩, by omega, by omega, by omega, by omega, fun j hj hne => ?_⟩
        rw [if_neg hne]
        intro e2
        have := hv j q hj e2
        omega
    · rw [if_neg e] at hx
      obtain ⟨a1, a2, a3, a4, a5, a6⟩ := h.vb i q hi hx
      refine ⟨a1, a2, a3, a4, a5, fun j hj hne => ?_⟩
      by_cases e2 : j = k
      · rw [if_pos e2]
        intro e3
        rcases hF q e3 with e4 | e4
        · exact a6 k hk (by omega) e4
        · have := hv i q hi hx
          omega
      · rw [if_neg e2]
        exact a6 j hj hne
end Go.Proofs.YthddilflldkmfaaDoor
namespace Go.Proofs.YthddilflldkmfaaDoor
open Go.RowKit Go.Lib
/-- A step's cells. -/
def roC (x : Ro) : List Value := [.int .i64 x.kd, .int .i64 x.on, .int .i64 x.sz, .int .i64 x.nn, .string ⟨x.s.toArray⟩, .slice x.lp x.ln x.lc]
def cellsO (os : List Ro) : List Value := os.flatMap roC
theorem cellsO_cons (x : Ro) (os : List Ro) : cellsO (x :: os) = roC x ++ cellsO os := rfl
theorem cellsO_len (os : List Ro) : (cellsO os).length = os.length * 6 := by
  induction os with
  | nil => rfl
  | cons x os ih => rw [cellsO_cons, List.length_append, ih]; simp [roC]; omega
theorem cellsO_at (os : List Ro) (j i : Nat) (hj : j < os.length) (hi : i < 6) : (cellsO os)[j * 6 + i]? = (roC (os.getD j ro0))[i]? := by
  induction os generalizing j with
  | nil => simp at hj
  | cons x os ih =>
    rw [cellsO_cons]
    have hl : (roC x).length = 6 := rfl
    cases j with
    | zero => rw [List.getElem?_append_left (by omega)]; simp
    | succ j =>
      rw [List.getElem?_append_right (by omega), hl, show (j + 1) * 6 + i - 6 = j * 6 + i by omega, ih j (by simpa using hj)]
      simp
theorem cellsO_one (os : List Ro) : ∀ v ∈ cellsO os, v.oneCell' = true := by
  intro v hv
  obtain ⟨x, _, h⟩ := List.mem_flatMap.1 hv
  simp [roC] at h
  rcases h with rfl | rfl | rfl | rfl | rfl | rfl <;> rfl
theorem cellsO_get (os : List Ro) (j : Nat) (v : Value) (h : (cellsO os)[j]? = some v) : ∃ k i, k < os.length ∧ i < 6 ∧ j = k * 6 + i ∧ (roC (os.getD k ro0))[i]? = some v := by
  have hj : j < os.length * 6 := by
    have := (List.getElem?_eq_some_iff.1 h).1
    rw [cellsO_len] at this
    exact this
  refine ⟨j / 6, j % 6, by omega, by omega, by omega, ?_⟩
  rw [← cellsO_at os (j / 6) (j % 6) (by omega) (by omega), show j / 6 * 6 + j % 6 = j by omega]
  exact h
theorem cellsO_app (a b : List Ro) : cellsO (a ++ b) = cellsO a ++ cellsO b := by simp [cellsO]
theorem RoAt.get {w : World} {p q : Nat} {x : Ro} (h : RoAt w p q x) (i : Nat) (v : Value) (hi : i < 6) (hv : (roC x)[i]? = some v) : w.cell? ⟨p, q + i, none⟩ = some v := by
  rcases (by omega : i = 0 ∨ i = 1 ∨ i = 2 ∨ i = 3 ∨ i = 4 ∨ i = 5) with rfl | rfl | rfl | rfl | rfl | rfl
  · rw [← hv]; exact h.c0
  · rw [← hv]; exact h.c1
  · rw [← hv]; exact h.c2
  · rw [← hv]; exact h.c3
  · rw [← hv]; exact h.c4
  · rw [← hv]; exact h.c5
/-- A row of steps of one's own. -/
def RowO (base : Nat) (w : World) (v : Value) (os : List Ro) : Prop := w.ownsRow base 33 6 v os.length (cellsO os)
theorem RowO.ros {base : Nat} {w : World} {v : Value} {os : List Ro} (h : RowO base w v os) (hne : os ≠ []) : ∃ g cap, v = .slice (some ⟨g, 0, none⟩) os.length cap ∧ base ≤ g ∧ g < w.heap.size ∧ Ros w (some ⟨g, 0, none⟩) os.length os := by
  rcases h.2 with ⟨_, q⟩ | ⟨g, cap, cur, e1, e2, e3, e4, e5, e6, e7⟩
  · exact absurd (List.eq_nil_of_length_eq_zero q) hne
  · refine ⟨g, cap, e1, e2, (Array.getElem?_eq_some_iff.1 e3).1, rfl, fun _ => ⟨g, 0, rfl, fun j hj => ?_⟩⟩
    have hcell : ∀ i, i < 6 → w.cell? ⟨g, 0 + j * 6 + i, none⟩ = (roC (os.getD j ro0))[i]? := by
      intro i hi
      rw [cell_of_row w g (0 + j * 6 + i) _ 33 (0, 0) e3, ← cellsO_at os j i hj hi, ← e7, Nat.zero_add, List.getElem?_take, if_pos (by omega)]
      simp
    exact ⟨hcell 0 (by omega), hcell 1 (by omega), hcell 2 (by omega), hcell 3 (by omega), hcell 4 (by omega), hcell 5 (by omega)⟩
theorem info33 : (Tryd.prog.info? 33).map (fun i => (i.zero, i.size, i.bytes)) = some (some (.agg #[.int .i64 0, .int .i64 0, .int .i64 0, .int .i64 0, .string ⟨#[]⟩, .slice none 0 0]), 6, 72) := by kernel_rfl
/-- append(nil, steps...). -/
theorem appendO {ops : Array Oper} {rest : List Oper} {o : Oper} {a : Act} {w : World} {Q : Exit → Act → World → Prop} (hgd : o.guard = none) (s x : Operand)
    (ho : o.op = .call { callee := .builtin .append, args := #[s, x], argTypes := #[22, 22] }) (hs : a.eval s = .slice none 0 0)
    (sp : Option Addr) (n cap : Nat) (os : List Ro) (hx : a.eval x = .slice sp n cap) (hf : Ros w sp n os) (hnone : sp = none → cap = 0) (hlen : n ≤ 1000000000000)
    (h : ∀ v' w', RowO w.heap.size w' v' os → Below w.heap.size w w' → wpList Tryd.prog ops Q rest (a.put o.dst v') w') : wpList Tryd.prog ops Q (o :: rest) a w := by
  cases sp with
  | none =>
    have hn : n = 0 := by
      rcases Nat.eq_zero_or_pos n with h0 | h0
      · exact h0
      · obtain ⟨p, q, e, _⟩ := hf.2 h0
        cases e
    have hc := hnone rfl
    subst hn hc
    have hos : os = [] := List.eq_nil_of_length_eq_zero hf.1.symm
    subst hos
    refine wpList_plain hgd fun K hK => ?_
    have hr : (Builtin.append_ #[22, 22] o.type #[.slice none 0 0, .slice none 0 0]).run Tryd.prog w = .ok (.slice none 0 0) w := by kernel_rfl
    unfold Oper.wp
    simp [execOp, ho, resolve, invoke, builtin, hs, hx, hr, Result.andThen]
    exact hK _ _ (h _ _ (World.ownsRow_nil _ _ _ _) (Below.refl _ _))
  | some ad =>
    obtain ⟨i0, hi, hz0, hz1, hz2⟩ := info_parts info33
    refine wpList_append_own w hgd s x 22 ho w.heap.size 33 i0 _ 6 72 Tryd.underlying22 hi hz0 hz1 hz2 rfl (by decide) (.slice none 0 0) 0 [] hs (World.ownsRow_nil _ _ _ _) ad n cap (cellsO os) hx (by rw [cellsO_len, hf.1]) ?_ (cellsO_one os) (by unfold maxLen; omega) (by omega) (Nat.le_refl _) ?_
    · intro j v hv
      obtain ⟨k, i, hk, hi6, rfl, hc⟩ := cellsO_get _ _ _ hv
      obtain ⟨p, q, e, hcells⟩ := hf.2 (by have := hf.1; omega)
      cases e
      have hadd : ∀ i, (⟨p, q, none⟩ : Addr).add i = ⟨p, q + i, none⟩ := fun i => by unfold Addr.add; split <;> simp_all
      rw [hadd, ← Nat.add_assoc]
      exact (hcells k (by have := hf.1; omega)).get i v hi6 hc
    · intro v' w' ho' hg _
      refine h v' w' ?_ ((Below.refl _ _).grown hg (Nat.le_refl _) (fun k hk => by cases hk))
      rw [Nat.zero_add, List.nil_append, hf.1] at ho'
      exact ho'
/-- append(steps, three more). -/
theorem appendO3 {ops : Array Oper} {rest : List Oper} {o : Oper} {a : Act} {w : World} {Q : Exit → Act → World → Prop} (hgd : o.guard = none) (s x : Operand)
    (ho : o.op = .call { callee := .builtin .append, args := #[s, x], argTypes := #[22, 22] }) (v : Value) (os more : List Ro) (base : Nat) (hs : a.eval s = v) (hv : RowO base w v os)
    (q m c : Nat) (hx : a.eval x = .slice (some ⟨q, 0, none⟩) m c) (hm : m = more.length) (hq : w.heap[q]? = some (.cells (cellsO more).toArray 33 (0, 0))) (hlen : os.length + m ≤ 1000000000000) (hbase : base ≤ w.heap.size)
    (h : ∀ v' w', RowO base w' v' (os ++ more) → Below base w w' → wpList Tryd.prog ops Q rest (a.put o.dst v') w') : wpList Tryd.prog ops Q (o :: rest) a w := by
  obtain ⟨i0, hi, hz0, hz1, hz2⟩ := info_parts info33
  refine wpList_append_own w hgd s x 22 ho base 33 i0 _ 6 72 Tryd.underlying22 hi hz0 hz1 hz2 rfl (by decide) v os.length (cellsO os) hs hv ⟨q, 0, none⟩ m c (cellsO more) hx (by rw [cellsO_len, hm]) ?_ (cellsO_one more) (by unfold maxLen; omega) (by omega) hbase ?_
  · intro j u hu
    have hadd : (⟨q, 0, none⟩ : Addr).add j = ⟨q, j, none⟩ := by unfold Addr.add; split <;> simp_all
    rw [hadd, cell_of_row w q j _ 33 (0, 0) hq]
    simpa using hu
  · intro v' w' ho' hg _
    refine h v' w' ?_ ((Below.refl _ _).grown hg hbase (fun k hk => (World.ownsRow.lt hv k hk).1))
    unfold RowO
    rw [cellsO_app, List.length_append, ← hm]
    exact ho'
end Go.Proofs.YthddilflldkmfaaDoor
namespace Go.Proofs.YthddilflldkmfaaDoor
open Go.RowKit Go.Lib
/-- The steps that the law adds. -/
def d0 : Ro := ⟨4, 0, 0, 0, [], none, 0, 0⟩
def d1 : Ro := ⟨4, 1, 0, 0, [], none, 0, 0⟩
def more : List Ro := [d0, d0, d1]
theorem szf_val (n : Nat) (x : Ro) (h : szf n x ≤ 2147483647) : n + 100 + x.s.length + 8 * x.ln ≤ szf n x ∧ x.ln ≤ 1000000000 := by
  unfold szf at h ⊢
  obtain ⟨h1, e1⟩ := addN_le h
  obtain ⟨h2, e2⟩ := addN_le (n := n) (m := 100) (by omega)
  obtain ⟨h3, e3⟩ := addN_le (n := x.s.length) (m := 8 * min x.ln 2147483647) (by omega)
  omega
theorem szo_part (os : List Ro) (h : szo os ≤ 2147483647) (k : Nat) : szo (os.take k) ≤ 2147483647 := by
  rcases Nat.lt_or_ge 2147483647 (szo (os.take k)) with q | q
  · have := szo_top os k (by omega)
    omega
  · exact q
theorem szo_len (os : List Ro) (h : szo os ≤ 2147483647) : os.length ≤ 21474836 := by
  suffices ∀ k, k ≤ os.length → 100 * k ≤ szo (os.take k) by
    have h1 := this os.length (Nat.le_refl _)
    rw [List.take_length] at h1
    omega
  intro k
  induction k with
  | zero => intro _; omega
  | succ k ih =>
    intro hk
    have h1 := ih (by omega)
    have h2 := szo_next os k (by omega)
    have h3 := szo_part os h (k + 1)
    rw [h2] at h3 ⊢
    have := szf_val _ _ h3
    omega
theorem wPut_le (X : List UInt8) (E e : Nat) (Y : List UInt8) : (wPut X E e Y).1.length ≤ X.length + Y.length := by
  unfold wPut
  split
  · simp
  · split <;> simp
theorem zPut_le (X : List UInt8) (E e : Nat) (Y : List UInt8) : (zPut X E e Y).1.length ≤ X.length + Y.length := by
  unfold zPut
  simp only
  split <;> simp
theorem wtw_new {w2 w3 w4 w6 w7 W : World} {sg : Nat} (r0 : WAt w2.heap.size (.slice none 0 0) [] 0 w3) (k3 : Below w2.heap.size w2 w3) (r1 : WAt w3.heap.size (.slice none 0 0) [] 0 w4) (k4 : Below w3.heap.size w3 w4)
    (q0 : ZAt (w4.heap.size + 1) [] 0 w6) (k6 : Below (w4.alloc (.cells #[.pointer (some ⟨w2.heap.size, 0, none⟩), .pointer (some ⟨w3.heap.size, 0, none⟩)] 25)).heap.size (w4.alloc (.cells #[.pointer (some ⟨w2.heap.size, 0, none⟩), .pointer (some ⟨w3.heap.size, 0, none⟩)] 25)) w6)
    (q1 : ZAt w6.heap.size [] 0 w7) (k7 : Below w6.heap.size w6 w7)
    (kW : Below (w7.alloc (.cells #[.pointer (some ⟨w4.heap.size + 1, 0, none⟩), .pointer (some ⟨w6.heap.size, 0, none⟩)] 28)).heap.size (w7.alloc (.cells #[.pointer (some ⟨w4.heap.size + 1, 0, none⟩), .pointer (some ⟨w6.heap.size, 0, none⟩)] 28)) W) (hsg : w7.heap.size < sg) :
    Wap w2.heap.size (duo w2.heap.size w3.heap.size) (duo (w4.heap.size + 1) w6.heap.size) w4.heap.size w7.heap.size sg ∧
    Wtw w2.heap.size (duo w2.heap.size w3.heap.size) (duo (w4.heap.size + 1) w6.heap.size) w4.heap.size w7.heap.size sg (fun _ => .slice none 0 0) (fun _ => ([], 0)) (fun _ => ([], 0)) W ∧ Below w2.heap.size w2 W := by
  have l0 := lt_of_row r0.row
  have l1 := lt_of_row r1.row
  have hs5 : (w4.alloc (.cells #[.pointer (some ⟨w2.heap.size, 0, none⟩), .pointer (some ⟨w3.heap.size, 0, none⟩)] 25)).heap.size = w4.heap.size + 1 := by simp
  have hc5 : (w4.alloc (.cells #[.pointer (some ⟨w2.heap.size, 0, none⟩), .pointer (some ⟨w3.heap.size, 0, none⟩)] 25)).heap[w4.heap.size]? = some (.cells #[.pointer (some ⟨w2.heap.size, 0, none⟩), .pointer (some ⟨w3.heap.size, 0, none⟩)] 25 (0, 0)) := by
    show (w4.heap.push _)[w4.heap.size]? = _
    simp
  have k5 : Below w4.heap.size w4 (w4.alloc (.cells #[.pointer (some ⟨w2.heap.size, 0, none⟩), .pointer (some ⟨w3.heap.size, 0, none⟩)] 25)) := (Below.refl _ _).alloc (Nat.le_refl _) _
  generalize w4.alloc (.cells #[.pointer (some ⟨w2.heap.size, 0, none⟩), .pointer (some ⟨w3.heap.size, 0, none⟩)] 25) = w5 at *
  have hc8 : (w7.alloc (.cells #[.pointer (some ⟨w4.heap.size + 1, 0, none⟩), .pointer (some ⟨w6.heap.size, 0, none⟩)] 28)).heap[w7.heap.size]? = some (.cells #[.pointer (some ⟨w4.heap.size + 1, 0, none⟩), .pointer (some ⟨w6.heap.size, 0, none⟩)] 28 (0, 0)) := by
    show (w7.heap.push _)[w7.heap.size]? = _
    simp
  have hs8 : (w7.alloc (.cells #[.pointer (some ⟨w4.heap.size + 1, 0, none⟩), .pointer (some ⟨w6.heap.size, 0, none⟩)] 28)).heap.size = w7.heap.size + 1 := by simp
  have k8 : Below w7.heap.size w7 (w7.alloc (.cells #[.pointer (some ⟨w4.heap.size + 1, 0, none⟩), .pointer (some ⟨w6.heap.size, 0, none⟩)] 28)) := (Below.refl _ _).alloc (Nat.le_refl _) _
  generalize w7.alloc (.cells #[.pointer (some ⟨w4.heap.size + 1, 0, none⟩), .pointer (some ⟨w6.heap.size, 0, none⟩)] 28) = w8 at *
  have l6 := lt_of_row q0
  have l7 := lt_of_row q1
  have z3 := k3.size
  have z4 := k4.size
  have z6 := k6.size
  have z7 := k7.size
  have z8 := k8.size
  have t8 : Below w8.heap.size w8 W := kW
  have t7 : Below w7.heap.size w7 W := k8.trans (t8.mono z8)
  have t6 : Below w6.heap.size w6 W := k7.trans (t7.mono z7)
  have t5 : Below w5.heap.size w5 W := k6.trans (t6.mono z6)
  have t4 : Below w4.heap.size w4 W := k5.trans (t5.mono (by omega))
  have t3 : Below w3.heap.size w3 W := k4.trans (t4.mono z4)
  have t2 : Below w2.heap.size w2 W := k3.trans (t3.mono z3)
  refine ⟨⟨?_, ?_, ?_, ?_, ?_⟩, ⟨?_, ?_, ?_, ?_, fun _ _ => ⟨rfl, fun _ => rfl⟩, fun k q _ e => by cases e⟩, t2⟩
  · intro i j _ _ _; unfold duo; split <;> split <;> omega
  · intro i j _ _ _; unfold duo; split <;> split <;> omega
  · intro i j _ _; unfold duo; split <;> split <;> omega
  · intro i _; unfold duo; split <;> omega
  · intro i _; unfold duo; split <;> omega
  · intro k _
    unfold duo
    split
    · exact r0.keep (P := fun _ => False) (Only.of_below t3) (fun q => q) (fun _ _ q => q)
    · exact r1.keep (P := fun _ => False) (Only.of_below t4) (fun q => q) (fun _ _ q => q)
  · intro k _
    unfold duo
    split
    · exact q0.keep (P := fun _ => False) (Only.of_below t6) (fun q => q)
    · exact q1.keep (P := fun _ => False) (Only.of_below t7) (fun q => q)
  · intro k hk
    rw [t5.cell (by show w4.heap.size < _; omega), cell_of_row _ _ _ _ _ _ hc5]
    rcases (by omega : k = 0 ∨ k = 1) with rfl | rfl <;> rfl
  · intro k hk
    rw [t8.cell (by show w7.heap.size < _; omega), cell_of_row _ _ _ _ _ _ hc8]
    rcases (by omega : k = 0 ∨ k = 1) with rfl | rfl <;> rfl
/-- Between two steps. -/
structure Wl (w : World) (base : Nat) (B Z : Nat → Nat) (gw gx sg : Nat) (os : List Ro) (j : Nat) (V : Nat → Value) (P Q : Nat → List UInt8 × Nat) (W : World) : Prop where
  wt : Wtw base B Z gw gx sg V P Q W
  len : ∀ k, k < 2 → (P k).1.length ≤ szo (os.take j) ∧ (Q k).1.length ≤ szo (os.take j)
  ros : Ros W (some ⟨sg, 0, none⟩) (os.length + 3) (os ++ more)
  sgl : sg < W.heap.size
  lay : Lay W
  from_ : Below w.heap.size w W
  bas : base ≤ W.heap.size
variable {w W W' : World} {base : Nat} {B Z : Nat → Nat} {gw gx sg : Nat} {os : List Ro} {j : Nat} {V : Nat → Value} {P Q : Nat → List UInt8 × Nat}
theorem Wl.below (h : Wl w base B Z gw gx sg os j V P Q W) (hb : Below W.heap.size W W') : Wl w base B Z gw gx sg os j V P Q W' :=
  ⟨h.wt.below hb, h.len, h.ros.below hb, Nat.lt_of_lt_of_le h.sgl hb.size, h.lay.below hb, h.from_.trans (hb.mono h.from_.size), Nat.le_trans h.bas hb.size⟩
theorem Wl.next (h : Wl w base B Z gw gx sg os j V P Q W) (hs : szo (os.take j) ≤ szo (os.take (j + 1))) : Wl w base B Z gw gx sg os (j + 1) V P Q W :=
  ⟨h.wt, fun k hk => ⟨Nat.le_trans (h.len k hk).1 hs, Nat.le_trans (h.len k hk).2 hs⟩, h.ros, h.sgl, h.lay, h.from_, h.bas⟩
theorem szo_up (os : List Ro) (h : szo os ≤ 2147483647) (j : Nat) : szo (os.take j) ≤ szo (os.take (j + 1)) := by
  by_cases hj : j < os.length
  · have h3 := szo_part os h (j + 1)
    have h2 := szo_next os j hj
    rw [h2] at h3 ⊢
    have := szf_val _ _ h3
    omega
  · rw [List.take_of_length_le (by omega), List.take_of_length_le (by omega)]
    exact Nat.le_refl _
theorem Ros.keepG {W W' : World} {g n : Nat} {qs : List Ro} (h : Ros W (some ⟨g, 0, none⟩) n qs) (e : W'.heap[g]? = W.heap[g]?) : Ros W' (some ⟨g, 0, none⟩) n qs := by
  refine ⟨h.1, fun h0 => ?_⟩
  obtain ⟨p, o, e1, hc⟩ := h.2 h0
  cases e1
  exact ⟨g, 0, rfl, fun j hj => (hc j hj).keep e⟩
theorem Wl.step (h : Wl w base B Z gw gx sg os j V P Q W) (ap : Wap base B Z gw gx sg) (hwb : w.heap.size ≤ base) (hpos : 0 < w.heap.size) (hz : szo os ≤ 2147483647) (k : Nat) (hk : k < 2) {p q : List UInt8 × Nat} (hag : Agr p q) (hm : MTo (B k) (V k) (Z k) p q W W') (hp : p.1.length ≤ szo (os.take (j + 1))) (hq : q.1.length ≤ szo (os.take (j + 1))) :
    ∃ v', Wl w base B Z gw gx sg os (j + 1) (put1 V k v') (put1 P k p) (put1 Q k q) W' := by
  obtain ⟨v', hw⟩ := h.wt.step ap h.sgl h.bas k hk hag hm
  obtain ⟨_, _, _, hO, _⟩ := hm
  have hf := h.wt.foot ap k hk
  have hzk := ap.zg k hk
  have hs := szo_up os hz j
  refine ⟨v', hw, fun i hi => ?_, h.ros.keepG (hO.block sg h.sgl ?_), Nat.lt_of_lt_of_le h.sgl hO.size, h.lay.keep hO ?_, hO.below h.from_ h.from_.size ?_, Nat.le_trans h.bas hO.size⟩
  · unfold put1
    split
    · exact ⟨hp, hq⟩
    · have := h.len i hi
      omega
  · rintro (e | e)
    · exact hf.2.2.2.1 e
    · exact hzk.2.2.1 e.symm
  · rintro (e | e)
    · exact hf.2.2.2.2 0 (by omega) e
    · omega
  · rintro x (e | e)
    · rcases Nat.lt_or_ge x base with q | q
      · exact absurd e (hf.2.2.2.2 x q)
      · omega
    · omega
end Go.Proofs.YthddilflldkmfaaDoor
namespace Go.Proofs.YthddilflldkmfaaDoor
open Go.RowKit Go.Lib
theorem zraw_put (z : Nat) (X : List UInt8) (E : Nat) (s : List UInt8) (w : World) (h : ZAt z X E w) (hl : X.length + s.length ≤ 1000000000000) :
    Calls Tryd.prog 18 #[.pointer (some ⟨z, 0, none⟩), .string ⟨s.toArray⟩] w fun ev w' => ev = .returned (.tuple #[]) ∧ ZTo z (zPut X E 0 s).1 (zPut X E 0 s).2 w w' := zraw_any z X E s w h hl
theorem wNum_len (X : List UInt8) (E : Nat) (size z : Int) : (wPut X E (numE size z) (numY size z)).1.length ≤ X.length + 8 := by
  unfold wPut
  by_cases hE : E = 0
  · by_cases h : numE size z = 0
    · have : 1 ≤ size ∧ size ≤ 8 := by
        by_cases q : 1 ≤ size ∧ size ≤ 8
        · exact q
        · exact absurd (by simp [numE, q] : numE size z ≠ 0) (by simpa using h)
      simp [hE, h, numY, be_len]
      omega
    · simp [hE, h]
  · simp [hE]
theorem textY_len (most : Int) (s : List UInt8) : (textY most s).length ≤ s.length + 2 := by
  have := be1_len most s.length
  simp [textY]
  omega
theorem MTo.of_drewN {b z n : Nat} {v : Value} {p q : List UInt8 × Nat} {w w' : World} (h : MTo b v z p q (w.drewN n) w') : MTo b v z p q w w' := by
  obtain ⟨v', h1, h2, h3, h4⟩ := h
  exact ⟨v', h1, h2, ⟨h3.os, h3.tape, h3.output, h3.size, h3.block⟩, h4⟩
theorem more_fit (os : List Ro) (h : ∀ j, (os.getD j ro0).Fit) (j : Nat) : ((os ++ more).getD j ro0).Fit := by
  by_cases hj : j < os.length
  · have e : (os ++ more).getD j ro0 = os.getD j ro0 := by rw [List.getD_eq_getElem?_getD, List.getElem?_append_left hj, ← List.getD_eq_getElem?_getD]
    rw [e]; exact h j
  · rw [List.getD_eq_getElem?_getD, List.getElem?_append_right (by omega)]
    have : j - os.length = 0 ∨ j - os.length = 1 ∨ j - os.length = 2 ∨ 3 ≤ j - os.length := by omega
    rcases this with e | e | e | e
    · rw [e]; exact ⟨by unfold i64 more d0; simp, by unfold i64 more d0; simp, by unfold i64 more d0; simp, by unfold i64 more d0; simp⟩
    · rw [e]; exact ⟨by unfold i64 more d0; simp, by unfold i64 more d0; simp, by unfold i64 more d0; simp, by unfold i64 more d0; simp⟩
    · rw [e]; exact ⟨by unfold i64 more d1; simp, by unfold i64 more d1; simp, by unfold i64 more d1; simp, by unfold i64 more d1; simp⟩
    · rw [List.getElem?_eq_none (by simp [more]; omega)]; exact ⟨by unfold i64 ro0; simp, by unfold i64 ro0; simp, by unfold i64 ro0; simp, by unfold i64 ro0; simp⟩
theorem more_kd (os : List Ro) (j : Nat) (h : ¬ j < os.length) (h3 : j < os.length + 3) : ((os ++ more).getD j ro0).kd = 4 := by
  rw [List.getD_eq_getElem?_getD, List.getElem?_append_right (by omega)]
  have : j - os.length = 0 ∨ j - os.length = 1 ∨ j - os.length = 2 := by omega
  rcases this with e | e | e <;> rw [e] <;> rfl
theorem more_os (os : List Ro) (j : Nat) (h : j < os.length) : (os ++ more).getD j ro0 = os.getD j ro0 := by
  rw [List.getD_eq_getElem?_getD, List.getElem?_append_left h, ← List.getD_eq_getElem?_getD]
set_option maxHeartbeats 8000000 in
set_option maxRecDepth 8000 in
theorem writes_walk (a : Option Addr) (n cap : Nat) (os : List Ro) (zss : Nat → List Int) (w : World) (hp : Ros w a n os) (hn : n ≤ 140737488351232) (hps : ∀ j, (os.getD j ro0).s.length ≤ 140737488351232) (hF : ∀ j, (os.getD j ro0).Fit) (hLs : ∀ j, Lz (os.getD j ro0) (zss j) w) (hnone : a = none → cap = 0) (hg : Lay w) :
    Calls Tryd.prog 3 #[.slice a n cap] w fun e w' => e = .returned (.bool true) ∧ Below w.heap.size w w' := by
  obtain rfl : n = os.length := hp.1
  have HP := hide hp
  have HZ := hide (size_any a os.length cap os w hp hn hps)
  have HF := hide (more_fit os hF)
  have HLS := hide hLs
  have HG := hide hg
  have HNN := hide hnone
  have HSZ0 := hide (szo_part os)
  clear hp hF hg hps hLs hnone
  by_cases hA : 2147483647 < szo os
  · generalize szo os = A at *
    have hA' : (2147483647 : Int) < (A : Int) := by omega
    go_enter Tryd.func3, Tryd.ntmps3
    go_wp2_with fail
    refine (unhide HZ).mono ?_
    rintro e w1 ⟨rfl, hb1⟩
    have HB1 := hide hb1
    clear hb1
    go_wp2
    go_ret
    exact ⟨rfl, unhide HB1⟩
  · have HSZ := hide (show szo os ≤ 2147483647 by omega)
    have hlen := szo_len os (unhide HSZ)
    obtain ⟨A, hAA⟩ : ∃ A, szo os = A := ⟨_, rfl⟩
    rw [hAA] at HZ hA
    have hA' : ¬ (2147483647 : Int) < (A : Int) := by omega
    clear hAA
    go_enter Tryd.func3, Tryd.ntmps3
    go_wp2_with fail
    refine (unhide HZ).mono ?_
    rintro e w1 ⟨rfl, hb1⟩
    have HB1 := hide hb1
    clear hb1 HZ
    go_wp2_with fail
    refine (awake_any _).mono ?_
    rintro e w2 ⟨rfl, hb2⟩
    have HB2 := hide ((unhide HB1).trans (hb2.mono (unhide HB1).size))
    clear HB1 hb2 hA hA'
    go_wp2_with fail
    refine (newwriter_any w2).mono ?_
    rintro e w3 ⟨rfl, r0, k3⟩
    have R0 := hide (And.intro r0 k3)
    clear r0 k3
    go_wp2_with fail
    refine (newwriter_any w3).mono ?_
    rintro e w4 ⟨rfl, r1, k4⟩
    have R1 := hide (And.intro r1 k4)
    clear r1 k4
    go_wp2_with fail
    refine (znew_any _).mono ?_
    rintro e w6 ⟨rfl, q0, k6⟩
    rw [show (w4.alloc (.cells #[.pointer (some ⟨w2.heap.size, 0, none⟩), .pointer (some ⟨w3.heap.size, 0, none⟩)] 25)).heap.size = w4.heap.size + 1 from by simp] at q0 ⊢
    have R2 := hide (And.intro q0 k6)
    clear q0 k6
    go_wp2_with fail
    refine (znew_any w6).mono ?_
    rintro e w7 ⟨rfl, q1, k7⟩
    have HNEW := hide (fun (W : World) (sg : Nat) (kW : Below (w7.alloc (.cells #[.pointer (some ⟨w4.heap.size + 1, 0, none⟩), .pointer (some ⟨w6.heap.size, 0, none⟩)] 28)).heap.size (w7.alloc (.cells #[.pointer (some ⟨w4.heap.size + 1, 0, none⟩), .pointer (some ⟨w6.heap.size, 0, none⟩)] 28)) W) (hsg : w7.heap.size < sg) => wtw_new (unhide R0).1 (unhide R0).2 (unhide R1).1 (unhide R1).2 (unhide R2).1 (unhide R2).2 q1 k7 kW hsg)
    have hnw := unhide HNEW (w7.alloc (.cells #[.pointer (some ⟨w4.heap.size + 1, 0, none⟩), .pointer (some ⟨w6.heap.size, 0, none⟩)] 28)) (w7.heap.size + 1) (Below.refl _ _) (by omega)
    have c0 : (w7.alloc (.cells #[.pointer (some ⟨w4.heap.size + 1, 0, none⟩), .pointer (some ⟨w6.heap.size, 0, none⟩)] 28)).cell? ⟨w4.heap.size, 0, none⟩ = some (.pointer (some ⟨w2.heap.size, 0, none⟩)) := hnw.2.1.cw 0 (by decide)
    have c1 : (w7.alloc (.cells #[.pointer (some ⟨w4.heap.size + 1, 0, none⟩), .pointer (some ⟨w6.heap.size, 0, none⟩)] 28)).cell? ⟨w4.heap.size, 1, none⟩ = some (.pointer (some ⟨w3.heap.size, 0, none⟩)) := hnw.2.1.cw 1 (by decide)
    have HB8 := hide ((unhide HB2).trans (hnw.2.2.mono (unhide HB2).size))
    have hsz8 : (w7.alloc (.cells #[.pointer (some ⟨w4.heap.size + 1, 0, none⟩), .pointer (some ⟨w6.heap.size, 0, none⟩)] 28)).heap.size = w7.heap.size + 1 := by simp
    have HS8 := hide hsz8
    clear q1 k7 R0 R1 R2 hnw hsz8
    go_wp2_with (first
      | (refine appendO rfl (.const (.slice none 0 0)) (.tmp 38) rfl (by rfl) a os.length cap os (by rfl) ((unhide HP).below (unhide HB8)) (unhide HNN) (by omega) ?_; intro v9 w9 hr9 hb9; have HR9 := hide hr9; have HB9 := hide hb9; clear hr9 hb9)
      | (refine appendO3 rfl (.tmp 39) (.tmp 43) rfl v9 os more _ (by rfl) ((unhide HR9).alloc _) w9.heap.size 3 3 (by rfl) rfl (show (w9.heap.push _)[w9.heap.size]? = _ from by rw [Array.getElem?_push_size]; rfl) (by omega) (by have := (unhide HB9).size; simp at this ⊢; omega) ?_; intro v10 w10 hr10 hb10; have HR10 := hide hr10; have HB10 := hide hb10; clear hr10 hb10))
    obtain ⟨sg, cp, rfl, hsg1, hsg2, hros⟩ := (unhide HR10).ros (by simp [more])
    rw [show (os ++ more).length = os.length + 3 by simp [more]] at hros ⊢
    have hs8 := unhide HS8
    have hs9 := (unhide HB9).size
    have hb89 : Below (w7.alloc (.cells #[.pointer (some ⟨w4.heap.size + 1, 0, none⟩), .pointer (some ⟨w6.heap.size, 0, none⟩)] 28)).heap.size (w7.alloc (.cells #[.pointer (some ⟨w4.heap.size + 1, 0, none⟩), .pointer (some ⟨w6.heap.size, 0, none⟩)] 28)) w10 := ((unhide HB9).alloc hs9 _).trans (unhide HB10)
    obtain ⟨ap, tw, hb2w⟩ := unhide HNEW w10 sg hb89 (by omega)
    have hbw := (unhide HB2).trans (hb2w.mono (unhide HB2).size)
    have hz2 := (unhide HB2).size
    have hz10 := hb2w.size
    have HLP0 := hide (show Wl w w2.heap.size (duo w2.heap.size w3.heap.size) (duo (w4.heap.size + 1) w6.heap.size) w4.heap.size w7.heap.size sg os 0 (fun _ => .slice none 0 0) (fun _ => ([], 0)) (fun _ => ([], 0)) w10 from ⟨tw, fun k _ => ⟨by simp, by simp⟩, hros, hsg2, (unhide HG).below hbw, hbw, hz10⟩)
    have AP := hide ap
    have HWB := hide hz2
    have HPOS := hide (unhide HG).pos
    clear ap tw hb2w hbw hb89 hros hsg1 hsg2 HNEW HR9 HB9 HR10 HB10 HB8 HS8 hs8 hs9 HB2 hz2 hz10 c0 c1 HNN HG
    generalize w4.heap.size = gw at *
    generalize w7.heap.size = gx at *
    generalize duo w2.heap.size w3.heap.size = B at *
    generalize duo (gw + 1) w6.heap.size = Z at *
    generalize w2.heap.size = base at *
    go_wp2
    go_loopw [6] (fun i wr => ∃ (j : Nat) (V : Nat → Value) (P Q : Nat → List UInt8 × Nat), j ≤ os.length + 3 ∧ i = .int .i64 j ∧ Wl w base B Z gw gx sg os j V P Q wr) (fun i _ => os.length + 3 - (Go.RowKit.intOf i).toNat)
    case atStart => exact ⟨0, _, _, _, by omega, rfl, unhide HLP0⟩
    case round =>
      clear HLP0
      obtain ⟨j, V, P, Q, hj, rfl, hlp⟩ := hrel
      by_cases hlt : j < os.length + 3
      · have hlt' : (j : Int) < (os.length : Int) + 3 := by omega
        obtain ⟨p, o, e, hpl, hro⟩ := hlp.ros.at hlt
        cases e
        have hfit := unhide HF j
        have HIN0 := hide (show ((os ++ more).getD j ro0).kd ≠ 4 → j < os.length ∧ (os ++ more).getD j ro0 = os.getD j ro0 from fun h => by
          by_cases q : j < os.length
          · exact ⟨q, more_os os j q⟩
          · exact absurd (more_kd os j q hlt) h)
        obtain ⟨x, hx⟩ : ∃ x, (os ++ more).getD j ro0 = x := ⟨_, rfl⟩
        rw [hx] at hro hfit HIN0
        have hin : x.kd ≠ 4 → j < os.length ∧ x = os.getD j ro0 ∧ szo (os.take j) + 100 + x.s.length + 8 * x.ln ≤ szo (os.take (j + 1)) ∧ szo (os.take (j + 1)) ≤ 2147483647 ∧ x.ln ≤ 1000000000 := fun h => by
          obtain ⟨h1, h2⟩ := unhide HIN0 h
          have h3 := szo_part os (unhide HSZ) (j + 1)
          have h4 := szo_next os j h1
          rw [← h2] at h4
          have h5 := szf_val (szo (os.take j)) x (by rw [← h4]; exact h3)
          rw [← h4] at h5
          exact ⟨h1, h2, h5.1, h3, h5.2⟩
        have HIN := hide hin
        have HLPA := hide hlp
        have d0 := hro.c0
        have d1 := hro.c1
        have d2 := hro.c2
        have d3 := hro.c3
        have d4 := hro.c4
        have d5 := hro.c5
        rw [Nat.zero_add] at d0 d1 d2 d3 d4 d5
        clear hlp hro hx hin HIN0
        go_wp2_with fail
        refine (pick_any x.on 2 _ hfit.b1.1 hfit.b1.2 (by decide) (by decide)).mono ?_
        rintro e w9 ⟨rfl, rfl⟩
        have hk := pk_lt x.on 2 (by decide)
        generalize pk x.on 2 = k at *
        have hb9 : Below wr.heap.size wr (wr.alloc (.cells #[.int .i64 x.kd, .int .i64 x.on, .int .i64 x.sz, .int .i64 x.nn, .string ⟨x.s.toArray⟩, .slice x.lp x.ln x.lc] 33)) := (Below.refl _ _).alloc (Nat.le_refl _) _
        have hc9 : (wr.alloc (.cells #[.int .i64 x.kd, .int .i64 x.on, .int .i64 x.sz, .int .i64 x.nn, .string ⟨x.s.toArray⟩, .slice x.lp x.ln x.lc] 33)).heap[wr.heap.size]? = some (.cells #[.int .i64 x.kd, .int .i64 x.on, .int .i64 x.sz, .int .i64 x.nn, .string ⟨x.s.toArray⟩, .slice x.lp x.ln x.lc] 33 (0, 0)) := by
          show (wr.heap.push _)[wr.heap.size]? = _
          simp
        have hub : B k < wr.heap.size := lt_of_row ((unhide HLPA).wt.wd k hk).row
        have huv : ∀ q, (V k).ownBlock = some q → q < wr.heap.size := fun q e => ((World.ownsRowF_of ((unhide HLPA).wt.wd k hk).own).lt q e).2
        have huz : Z k < wr.heap.size := lt_of_row ((unhide HLPA).wt.zd k hk)
        have HLP := hide ((unhide HLPA).below hb9)
        clear HLPA hb9 d0 d1 d2 d3 d4 d5
        generalize wr.alloc (.cells #[.int .i64 x.kd, .int .i64 x.on, .int .i64 x.sz, .int .i64 x.nn, .string ⟨x.s.toArray⟩, .slice x.lp x.ln x.lc] 33) = w9 at *
        generalize wr.heap.size = u at *
        have hru : RoAt w9 u 0 x := ⟨by rw [cell_of_row _ _ _ _ _ _ hc9]; rfl, by rw [cell_of_row _ _ _ _ _ _ hc9]; rfl, by rw [cell_of_row _ _ _ _ _ _ hc9]; rfl, by rw [cell_of_row _ _ _ _ _ _ hc9]; rfl, by rw [cell_of_row _ _ _ _ _ _ hc9]; rfl, by rw [cell_of_row _ _ _ _ _ _ hc9]; rfl⟩
        have d0 := hru.c0
        have hnf : ¬ foot (B k) (V k) u := by
          rintro (q | q)
          · omega
          · have := huv u q
            omega
        have HU := hide (And.intro (lt_of_row hc9) (And.intro (And.intro hnf (show u ≠ Z k by omega)) hru))
        clear hc9 hru hub huv huz hnf
        by_cases e1 : x.kd = 1
        · rw [e1] at d0
          obtain ⟨hjn, hxo, hb1, hb2, hb3⟩ := unhide HIN (by rw [e1]; decide)
          have HWC := hide (fun (W : World) (h : WAt (B k) (V k) (P k).1 (P k).2 W) => wnum_any (B k) (V k) (P k).1 (P k).2 x.sz x.nn W h hfit.b3.2 (by have := ((unhide HLP).len k hk).1; omega))
          have HZC := hide (fun (W : World) (h : ZAt (Z k) (Q k).1 (Q k).2 W) => znum_any (Z k) (Q k).1 (Q k).2 x.sz x.nn W h hfit.b3.2 (by have := ((unhide HLP).len k hk).2; omega))
          have hag := agr_put ((unhide HLP).wt.agr k hk) (numE x.sz x.nn) (numY x.sz x.nn)
          have hpl1 : (wPut (P k).1 (P k).2 (numE x.sz x.nn) (numY x.sz x.nn)).1.length ≤ (P k).1.length + x.s.length + 10 := by have := wNum_len (P k).1 (P k).2 x.sz x.nn; omega
          have hql1 : (zPut (Q k).1 (Q k).2 (numE x.sz x.nn) (numY x.sz x.nn)).1.length ≤ (Q k).1.length + x.s.length + 10 := by have := zPut_len (Q k).1 (Q k).2 x.sz x.nn; omega
          have HPL := hide (show (wPut (P k).1 (P k).2 (numE x.sz x.nn) (numY x.sz x.nn)).1.length ≤ szo (os.take (j + 1)) by have := ((unhide HLP).len k hk).1; omega)
          have HQL := hide (show (zPut (Q k).1 (Q k).2 (numE x.sz x.nn) (numY x.sz x.nn)).1.length ≤ szo (os.take (j + 1)) by have := ((unhide HLP).len k hk).2; omega)
          clear hpl1 hql1
          generalize wPut (P k).1 (P k).2 (numE x.sz x.nn) (numY x.sz x.nn) = p1 at *
          generalize zPut (Q k).1 (Q k).2 (numE x.sz x.nn) (numY x.sz x.nn) = q1 at *
          have HAG := hide hag
          clear hag
          go_wp2_with fail
          have hft := (unhide HLP).wt.foot (unhide AP) k hk
          have hcua : ∀ c v', w9.cell? ⟨u, 0 + c, none⟩ = some v' → ∀ L W, WdC 8 (fun W => WTo (B k) (V k) p1.1 p1.2 w9 W) w9 L W → W.cell? ⟨u, 0 + c, none⟩ = some v' := fun c v' h L W hW => (World.cell?_of_block (hW.block (fun _ q => (Exists.choose_spec q).2.1) u (unhide HU).1 (unhide HU).2.1.1)).trans h
          refine rwa gw k u (B k) x.sz x.nn rfl rfl rfl _ _ (show 71 ≤ 156 from by decide) rfl rfl rfl (WdC 8 (fun W => WTo (B k) (V k) p1.1 p1.2 w9 W) w9) ?h0 ?hp hk ?l3 ?l5 ?l7 ?c8 ?_
          case h0 => exact WdC.start _ _ _
          case hp => exact fun i hi L W hW => hW.pure i (by intro e; subst e; simp at hi)
          case l3 => exact fun L W hW => (by rw [Nat.zero_add]; exact (World.cell?_of_block (hW.block (fun _ q => (Exists.choose_spec q).2.1) gw (block_lt_of_cell ((unhide HLP).wt.cw k hk)) hft.2.1)).trans ((unhide HLP).wt.cw k hk))
          case l5 => exact fun L W hW => (hcua 2 _ (unhide HU).2.2.c2 L W hW)
          case l7 => exact fun L W hW => (hcua 3 _ (unhide HU).2.2.c3 L W hW)
          case c8 =>
            intro L W hW hc
            obtain ⟨n2, rfl⟩ := hW.call hc
            exact (unhide HWC (w9.drewN n2) (((unhide HLP).wt.wd k hk).keep (Only.drewN (fun _ => False) w9 n2) (fun q => q) (fun _ _ q => q))).mono (fun e w' h => ⟨h.1, WdC.post h.2.of_drewN⟩)
          intro L w10 hall hW4
          have hto := hW4.done (hall 8 (by decide))
          clear hall hW4 hcua HWC
          have hO10 := (Exists.choose_spec hto).2.1
          have hz10 : ZAt (Z k) (Q k).1 (Q k).2 w10 := ((unhide HLP).wt.zd k hk).keep hO10 hft.1
          have hx10 : w10.cell? ⟨gx, k, none⟩ = some (.pointer (some ⟨Z k, 0, none⟩)) := (World.cell?_of_block (hO10.block gx (block_lt_of_cell ((unhide HLP).wt.cx k hk)) hft.2.2.1)).trans ((unhide HLP).wt.cx k hk)
          have hu10 : RoAt w10 u 0 x := (unhide HU).2.2.keep (hO10.block u (unhide HU).1 (unhide HU).2.1.1)
          have HTO := hide hto
          have HX10 := hide (And.intro hx10 (And.intro hu10 (And.intro hz10 (And.intro (block_lt_of_cell hx10) (block_lt_of_cell hu10.c0)))))
          clear hto hO10 hz10 hx10 hu10
          simp only [put_list, List.set_cons_succ, List.set_cons_zero]
          go_wp2_with fail
          have hcub : ∀ c v', w10.cell? ⟨u, 0 + c, none⟩ = some v' → ∀ L W, WdC 8 (fun W => ZTo (Z k) q1.1 q1.2 w10 W) w10 L W → W.cell? ⟨u, 0 + c, none⟩ = some v' := fun c v' h L W hW => (World.cell?_of_block (hW.block (fun _ q => q.2) u (unhide HX10).2.2.2.2 (unhide HU).2.1.2)).trans h
          refine rwb gx k u (Z k) x.sz x.nn rfl rfl rfl _ _ (show 80 ≤ 156 from by decide) rfl rfl rfl (WdC 8 (fun W => ZTo (Z k) q1.1 q1.2 w10 W) w10) ?h0 ?hp hk ?l3 ?l5 ?l7 ?c8 ?_
          case h0 => exact WdC.start _ _ _
          case hp => exact fun i hi L W hW => hW.pure i (by intro e; subst e; simp at hi)
          case l3 => exact fun L W hW => (by rw [Nat.zero_add]; exact (World.cell?_of_block (hW.block (fun _ q => q.2) gx (unhide HX10).2.2.2.1 (Ne.symm ((unhide AP).zg k hk).2.1))).trans (unhide HX10).1)
          case l5 => exact fun L W hW => (hcub 2 _ (unhide HX10).2.1.c2 L W hW)
          case l7 => exact fun L W hW => (hcub 3 _ (unhide HX10).2.1.c3 L W hW)
          case c8 =>
            intro L W hW hc
            obtain ⟨n2, rfl⟩ := hW.call hc
            exact (unhide HZC (w10.drewN n2) (unhide HX10).2.2.1).mono (fun e w' h => ⟨h.1, WdC.post h.2.of_drewN⟩)
          intro L w11 hall hW5
          have hzo := hW5.done (hall 8 (by decide))
          clear hall hW5 hcub HZC
          have hmt := MTo.of (unhide HTO) hzo hft.1 (lt_of_row ((unhide HLP).wt.zd k hk))
          obtain ⟨v', hnew⟩ := (unhide HLP).step (unhide AP) (unhide HWB) (unhide HPOS) (unhide HSZ) k hk (unhide HAG) hmt (unhide HPL) (unhide HQL)
          have HLQ := hide hnew
          clear hnew hmt hzo hft
          simp only [put_list, List.set_cons_succ, List.set_cons_zero]
          go_wp2
          refine ⟨⟨j + 1, _, _, _, by omega, by go_num, unhide HLQ⟩, ?_⟩
          simp [Go.RowKit.intOf]; omega
        by_cases e2 : x.kd = 2
        · rw [e2] at d0
          obtain ⟨hjn, hxo, hb1, hb2, hb3⟩ := unhide HIN (by rw [e2]; decide)
          have HWC := hide (fun (W : World) (h : WAt (B k) (V k) (P k).1 (P k).2 W) => wtext_any (B k) (V k) (P k).1 (P k).2 x.nn x.s W h (by have := ((unhide HLP).len k hk).1; omega))
          have HZC := hide (fun (W : World) (h : ZAt (Z k) (Q k).1 (Q k).2 W) => ztext_any (Z k) (Q k).1 (Q k).2 x.nn x.s W h (by have := ((unhide HLP).len k hk).2; omega))
          have hag := agr_put ((unhide HLP).wt.agr k hk) (textE x.nn x.s.length) (textY x.nn x.s)
          have hpl1 : (wPut (P k).1 (P k).2 (textE x.nn x.s.length) (textY x.nn x.s)).1.length ≤ (P k).1.length + x.s.length + 10 := by have := wPut_le (P k).1 (P k).2 (textE x.nn x.s.length) (textY x.nn x.s); have := textY_len x.nn x.s; omega
          have hql1 : (zPut (Q k).1 (Q k).2 (textE x.nn x.s.length) (textY x.nn x.s)).1.length ≤ (Q k).1.length + x.s.length + 10 := by have := zPut_le (Q k).1 (Q k).2 (textE x.nn x.s.length) (textY x.nn x.s); have := textY_len x.nn x.s; omega
          have HPL := hide (show (wPut (P k).1 (P k).2 (textE x.nn x.s.length) (textY x.nn x.s)).1.length ≤ szo (os.take (j + 1)) by have := ((unhide HLP).len k hk).1; omega)
          have HQL := hide (show (zPut (Q k).1 (Q k).2 (textE x.nn x.s.length) (textY x.nn x.s)).1.length ≤ szo (os.take (j + 1)) by have := ((unhide HLP).len k hk).2; omega)
          clear hpl1 hql1
          generalize wPut (P k).1 (P k).2 (textE x.nn x.s.length) (textY x.nn x.s) = p1 at *
          generalize zPut (Q k).1 (Q k).2 (textE x.nn x.s.length) (textY x.nn x.s) = q1 at *
          have HAG := hide hag
          clear hag
          go_wp2_with fail
          have hft := (unhide HLP).wt.foot (unhide AP) k hk
          have hcua : ∀ c v', w9.cell? ⟨u, 0 + c, none⟩ = some v' → ∀ L W, WdC 8 (fun W => WTo (B k) (V k) p1.1 p1.2 w9 W) w9 L W → W.cell? ⟨u, 0 + c, none⟩ = some v' := fun c v' h L W hW => (World.cell?_of_block (hW.block (fun _ q => (Exists.choose_spec q).2.1) u (unhide HU).1 (unhide HU).2.1.1)).trans h
          refine rwc gw k u (B k) x.nn x.s rfl rfl rfl _ _ (show 91 ≤ 156 from by decide) rfl rfl rfl (WdC 8 (fun W => WTo (B k) (V k) p1.1 p1.2 w9 W) w9) ?h0 ?hp hk ?l3 ?l5 ?l7 ?c8 ?_
          case h0 => exact WdC.start _ _ _
          case hp => exact fun i hi L W hW => hW.pure i (by intro e; subst e; simp at hi)
          case l3 => exact fun L W hW => (by rw [Nat.zero_add]; exact (World.cell?_of_block (hW.block (fun _ q => (Exists.choose_spec q).2.1) gw (block_lt_of_cell ((unhide HLP).wt.cw k hk)) hft.2.1)).trans ((unhide HLP).wt.cw k hk))
          case l5 => exact fun L W hW => (hcua 3 _ (unhide HU).2.2.c3 L W hW)
          case l7 => exact fun L W hW => (hcua 4 _ (unhide HU).2.2.c4 L W hW)
          case c8 =>
            intro L W hW hc
            obtain ⟨n2, rfl⟩ := hW.call hc
            exact (unhide HWC (w9.drewN n2) (((unhide HLP).wt.wd k hk).keep (Only.drewN (fun _ => False) w9 n2) (fun q => q) (fun _ _ q => q))).mono (fun e w' h => ⟨h.1, WdC.post h.2.of_drewN⟩)
          intro L w10 hall hW4
          have hto := hW4.done (hall 8 (by decide))
          clear hall hW4 hcua HWC
          have hO10 := (Exists.choose_spec hto).2.1
          have hz10 : ZAt (Z k) (Q k).1 (Q k).2 w10 := ((unhide HLP).wt.zd k hk).keep hO10 hft.1
          have hx10 : w10.cell? ⟨gx, k, none⟩ = some (.pointer (some ⟨Z k, 0, none⟩)) := (World.cell?_of_block (hO10.block gx (block_lt_of_cell ((unhide HLP).wt.cx k hk)) hft.2.2.1)).trans ((unhide HLP).wt.cx k hk)
          have hu10 : RoAt w10 u 0 x := (unhide HU).2.2.keep (hO10.block u (unhide HU).1 (unhide HU).2.1.1)
          have HTO := hide hto
          have HX10 := hide (And.intro hx10 (And.intro hu10 (And.intro hz10 (And.intro (block_lt_of_cell hx10) (block_lt_of_cell hu10.c0)))))
          clear hto hO10 hz10 hx10 hu10
          simp only [put_list, List.set_cons_succ, List.set_cons_zero]
          go_wp2_with fail
          have hcub : ∀ c v', w10.cell? ⟨u, 0 + c, none⟩ = some v' → ∀ L W, WdC 8 (fun W => ZTo (Z k) q1.1 q1.2 w10 W) w10 L W → W.cell? ⟨u, 0 + c, none⟩ = some v' := fun c v' h L W hW => (World.cell?_of_block (hW.block (fun _ q => q.2) u (unhide HX10).2.2.2.2 (unhide HU).2.1.2)).trans h
          refine rwd gx k u (Z k) x.nn x.s rfl rfl rfl _ _ (show 100 ≤ 156 from by decide) rfl rfl rfl (WdC 8 (fun W => ZTo (Z k) q1.1 q1.2 w10 W) w10) ?h0 ?hp hk ?l3 ?l5 ?l7 ?c8 ?_
          case h0 => exact WdC.start _ _ _
          case hp => exact fun i hi L W hW => hW.pure i (by intro e; subst e; simp at hi)
          case l3 => exact fun L W hW => (by rw [Nat.zero_add]; exact (World.cell?_of_block (hW.block (fun _ q => q.2) gx (unhide HX10).2.2.2.1 (Ne.symm ((unhide AP).zg k hk).2.1))).trans (unhide HX10).1)
          case l5 => exact fun L W hW => (hcub 3 _ (unhide HX10).2.1.c3 L W hW)
          case l7 => exact fun L W hW => (hcub 4 _ (unhide HX10).2.1.c4 L W hW)
          case c8 =>
            intro L W hW hc
            obtain ⟨n2, rfl⟩ := hW.call hc
            exact (unhide HZC (w10.drewN n2) (unhide HX10).2.2.1).mono (fun e w' h => ⟨h.1, WdC.post h.2.of_drewN⟩)
          intro L w11 hall hW5
          have hzo := hW5.done (hall 8 (by decide))
          clear hall hW5 hcub HZC
          have hmt := MTo.of (unhide HTO) hzo hft.1 (lt_of_row ((unhide HLP).wt.zd k hk))
          obtain ⟨v', hnew⟩ := (unhide HLP).step (unhide AP) (unhide HWB) (unhide HPOS) (unhide HSZ) k hk (unhide HAG) hmt (unhide HPL) (unhide HQL)
          have HLQ := hide hnew
          clear hnew hmt hzo hft
          simp only [put_list, List.set_cons_succ, List.set_cons_zero]
          go_wp2
          refine ⟨⟨j + 1, _, _, _, by omega, by go_num, unhide HLQ⟩, ?_⟩
          simp [Go.RowKit.intOf]; omega
        by_cases e3 : x.kd = 3
        · rw [e3] at d0
          obtain ⟨hjn, hxo, hb1, hb2, hb3⟩ := unhide HIN (by rw [e3]; decide)
          have HWC := hide (fun (W : World) (h : WAt (B k) (V k) (P k).1 (P k).2 W) => wraw_any (B k) (V k) (P k).1 (P k).2 x.s W h (by have := ((unhide HLP).len k hk).1; omega))
          have HZC := hide (fun (W : World) (h : ZAt (Z k) (Q k).1 (Q k).2 W) => zraw_put (Z k) (Q k).1 (Q k).2 x.s W h (by have := ((unhide HLP).len k hk).2; omega))
          have hag := agr_put ((unhide HLP).wt.agr k hk) (0) (x.s)
          have hpl1 : (wPut (P k).1 (P k).2 (0) (x.s)).1.length ≤ (P k).1.length + x.s.length + 10 := by have := wPut_le (P k).1 (P k).2 0 x.s; omega
          have hql1 : (zPut (Q k).1 (Q k).2 (0) (x.s)).1.length ≤ (Q k).1.length + x.s.length + 10 := by have := zPut_le (Q k).1 (Q k).2 0 x.s; omega
          have HPL := hide (show (wPut (P k).1 (P k).2 (0) (x.s)).1.length ≤ szo (os.take (j + 1)) by have := ((unhide HLP).len k hk).1; omega)
          have HQL := hide (show (zPut (Q k).1 (Q k).2 (0) (x.s)).1.length ≤ szo (os.take (j + 1)) by have := ((unhide HLP).len k hk).2; omega)
          clear hpl1 hql1
          generalize wPut (P k).1 (P k).2 (0) (x.s) = p1 at *
          generalize zPut (Q k).1 (Q k).2 (0) (x.s) = q1 at *
          have HAG := hide hag
          clear hag
          go_wp2_with fail
          have hft := (unhide HLP).wt.foot (unhide AP) k hk
          have hcua : ∀ c v', w9.cell? ⟨u, 0 + c, none⟩ = some v' → ∀ L W, WdC 6 (fun W => WTo (B k) (V k) p1.1 p1.2 w9 W) w9 L W → W.cell? ⟨u, 0 + c, none⟩ = some v' := fun c v' h L W hW => (World.cell?_of_block (hW.block (fun _ q => (Exists.choose_spec q).2.1) u (unhide HU).1 (unhide HU).2.1.1)).trans h
          refine rwe gw k u (B k) x.s rfl rfl rfl _ _ (show 109 ≤ 156 from by decide) rfl rfl rfl (WdC 6 (fun W => WTo (B k) (V k) p1.1 p1.2 w9 W) w9) ?h0 ?hp hk ?l3 ?l5 ?c6 ?_
          case h0 => exact WdC.start _ _ _
          case hp => exact fun i hi L W hW => hW.pure i (by intro e; subst e; simp at hi)
          case l3 => exact fun L W hW => (by rw [Nat.zero_add]; exact (World.cell?_of_block (hW.block (fun _ q => (Exists.choose_spec q).2.1) gw (block_lt_of_cell ((unhide HLP).wt.cw k hk)) hft.2.1)).trans ((unhide HLP).wt.cw k hk))
          case l5 => exact fun L W hW => (hcua 4 _ (unhide HU).2.2.c4 L W hW)
          case c6 =>
            intro L W hW hc
            obtain ⟨n2, rfl⟩ := hW.call hc
            exact (unhide HWC (w9.drewN n2) (((unhide HLP).wt.wd k hk).keep (Only.drewN (fun _ => False) w9 n2) (fun q => q) (fun _ _ q => q))).mono (fun e w' h => ⟨h.1, WdC.post h.2.of_drewN⟩)
          intro L w10 hall hW4
          have hto := hW4.done (hall 6 (by decide))
          clear hall hW4 hcua HWC
          have hO10 := (Exists.choose_spec hto).2.1
          have hz10 : ZAt (Z k) (Q k).1 (Q k).2 w10 := ((unhide HLP).wt.zd k hk).keep hO10 hft.1
          have hx10 : w10.cell? ⟨gx, k, none⟩ = some (.pointer (some ⟨Z k, 0, none⟩)) := (World.cell?_of_block (hO10.block gx (block_lt_of_cell ((unhide HLP).wt.cx k hk)) hft.2.2.1)).trans ((unhide HLP).wt.cx k hk)
          have hu10 : RoAt w10 u 0 x := (unhide HU).2.2.keep (hO10.block u (unhide HU).1 (unhide HU).2.1.1)
          have HTO := hide hto
          have HX10 := hide (And.intro hx10 (And.intro hu10 (And.intro hz10 (And.intro (block_lt_of_cell hx10) (block_lt_of_cell hu10.c0)))))
          clear hto hO10 hz10 hx10 hu10
          simp only [put_list, List.set_cons_succ, List.set_cons_zero]
          go_wp2_with fail
          have hcub : ∀ c v', w10.cell? ⟨u, 0 + c, none⟩ = some v' → ∀ L W, WdC 6 (fun W => ZTo (Z k) q1.1 q1.2 w10 W) w10 L W → W.cell? ⟨u, 0 + c, none⟩ = some v' := fun c v' h L W hW => (World.cell?_of_block (hW.block (fun _ q => q.2) u (unhide HX10).2.2.2.2 (unhide HU).2.1.2)).trans h
          refine rwf gx k u (Z k) x.s rfl rfl rfl _ _ (show 116 ≤ 156 from by decide) rfl rfl rfl (WdC 6 (fun W => ZTo (Z k) q1.1 q1.2 w10 W) w10) ?h0 ?hp hk ?l3 ?l5 ?c6 ?_
          case h0 => exact WdC.start _ _ _
          case hp => exact fun i hi L W hW => hW.pure i (by intro e; subst e; simp at hi)
          case l3 => exact fun L W hW => (by rw [Nat.zero_add]; exact (World.cell?_of_block (hW.block (fun _ q => q.2) gx (unhide HX10).2.2.2.1 (Ne.symm ((unhide AP).zg k hk).2.1))).trans (unhide HX10).1)
          case l5 => exact fun L W hW => (hcub 4 _ (unhide HX10).2.1.c4 L W hW)
          case c6 =>
            intro L W hW hc
            obtain ⟨n2, rfl⟩ := hW.call hc
            exact (unhide HZC (w10.drewN n2) (unhide HX10).2.2.1).mono (fun e w' h => ⟨h.1, WdC.post h.2.of_drewN⟩)
          intro L w11 hall hW5
          have hzo := hW5.done (hall 6 (by decide))
          clear hall hW5 hcub HZC
          have hmt := MTo.of (unhide HTO) hzo hft.1 (lt_of_row ((unhide HLP).wt.zd k hk))
          obtain ⟨v', hnew⟩ := (unhide HLP).step (unhide AP) (unhide HWB) (unhide HPOS) (unhide HSZ) k hk (unhide HAG) hmt (unhide HPL) (unhide HQL)
          have HLQ := hide hnew
          clear hnew hmt hzo hft
          simp only [put_list, List.set_cons_succ, List.set_cons_zero]
          go_wp2
          refine ⟨⟨j + 1, _, _, _, by omega, by go_num, unhide HLQ⟩, ?_⟩
          simp [Go.RowKit.intOf]; omega
        by_cases e5 : x.kd = 5
        · rw [e5] at d0
          obtain ⟨hjn, hxo, hb1, hb2, hb3⟩ := unhide HIN (by rw [e5]; decide)
          have hLw : Lz x (zss j) w := by rw [hxo]; exact unhide HLS j
          have hft := (unhide HLP).wt.foot (unhide AP) k hk
          have hlold : 0 < x.ln → ∀ g q, x.lp = some ⟨g, q, none⟩ → ¬ foot (B k) (V k) g ∧ g ≠ Z k := fun h0 g q e => by
            obtain ⟨g', q', e', hc'⟩ := hLw.cell h0
            rw [e] at e'
            cases e'
            have h1 : g < w.heap.size := block_lt_of_cell (hc' 0 h0)
            have h2 := unhide HWB
            exact ⟨hft.2.2.2.2 g (by omega), by have := ((unhide AP).zg k hk).2.2.2; omega⟩
          have HMC := hide (fun n2 => many_any (B k) (V k) (P k).1 (P k).2 (Z k) (Q k).1 (Q k).2 x (zss j) (w9.drewN n2) (((unhide HLP).wt.wd k hk).keep (Only.drewN (fun _ => False) w9 n2) (fun q => q) (fun _ _ q => q)) ((unhide HLP).wt.zd k hk) ((hLw.below (unhide HLP).from_).keep (fun _ _ _ _ => rfl)) hfit hft.1 hlold (by have := ((unhide HLP).len k hk).1; omega) (by have := ((unhide HLP).len k hk).2; omega) hb3)
          have hzl : ((zss j).map (cvt (pk x.nn 6))).length = x.ln := by rw [List.length_map, hLw.len]
          have hag := agr_nums x.sz ((zss j).map (cvt (pk x.nn 6))) (show Agr ((P k).1, (P k).2) ((Q k).1, (Q k).2) from (unhide HLP).wt.agr k hk)
          have hpl1 := wNums_len (P k).1 (P k).2 x.sz ((zss j).map (cvt (pk x.nn 6))) _ (Nat.le_refl _)
          have hql1 := zNums_len (Q k).1 (Q k).2 x.sz ((zss j).map (cvt (pk x.nn 6))) _ (Nat.le_refl _)
          rw [List.take_length] at hpl1 hql1
          have HPL := hide (show (wNums (P k).1 (P k).2 x.sz ((zss j).map (cvt (pk x.nn 6)))).1.length ≤ szo (os.take (j + 1)) by have := ((unhide HLP).len k hk).1; omega)
          have HQL := hide (show (zNums (Q k).1 (Q k).2 x.sz ((zss j).map (cvt (pk x.nn 6)))).1.length ≤ szo (os.take (j + 1)) by have := ((unhide HLP).len k hk).2; omega)
          clear hpl1 hql1 hzl
          generalize wNums (P k).1 (P k).2 x.sz ((zss j).map (cvt (pk x.nn 6))) = p1 at *
          generalize zNums (Q k).1 (Q k).2 x.sz ((zss j).map (cvt (pk x.nn 6))) = q1 at *
          have HAG := hide hag
          clear hag hLw hlold
          go_wp2_with fail
          have hblk : ∀ g, g < w9.heap.size → ¬ (foot (B k) (V k) g ∨ g = Z k) → ∀ L W, WdC 9 (fun W => MTo (B k) (V k) (Z k) p1 q1 w9 W) w9 L W → W.heap[g]? = w9.heap[g]? := fun g hg hn L W hW => hW.block (P := fun y => foot (B k) (V k) y ∨ y = Z k) (fun _ q => (Exists.choose_spec q).2.2.1) g hg hn
          refine rwm gw gx k u (B k) (Z k) x rfl rfl rfl _ _ (show 128 ≤ 156 from by decide) rfl rfl rfl rfl (WdC 9 (fun W => MTo (B k) (V k) (Z k) p1 q1 w9 W) w9) ?h0 ?hp hk hk ?l3 ?l7 ?l8 ?c9 ?_
          case h0 => exact WdC.start _ _ _
          case hp => exact fun i hi L W hW => hW.pure i (by intro e; subst e; simp at hi)
          case l3 => exact fun L W hW => (by rw [Nat.zero_add]; exact (World.cell?_of_block (hblk gw (block_lt_of_cell ((unhide HLP).wt.cw k hk)) (fun h => h.elim (fun q => hft.2.1 q) (fun q => ((unhide AP).zg k hk).1 q.symm)) L W hW)).trans ((unhide HLP).wt.cw k hk))
          case l7 => exact fun L W hW => (by rw [Nat.zero_add]; exact (World.cell?_of_block (hblk gx (block_lt_of_cell ((unhide HLP).wt.cx k hk)) (fun h => h.elim (fun q => hft.2.2.1 q) (fun q => ((unhide AP).zg k hk).2.1 q.symm)) L W hW)).trans ((unhide HLP).wt.cx k hk))
          case l8 => exact fun L W hW => (unhide HU).2.2.keep (hblk u (unhide HU).1 (fun h => h.elim (fun q => (unhide HU).2.1.1 q) (fun q => (unhide HU).2.1.2 q)) L W hW)
          case c9 =>
            intro L W hW hc
            obtain ⟨n2, rfl⟩ := hW.call hc
            exact (unhide HMC n2).mono (fun e w' h => ⟨h.1, WdC.post h.2.of_drewN⟩)
          intro L w11 hall hW5
          have hmt := hW5.done (hall 9 (by decide))
          clear hall hW5 HMC hblk
          obtain ⟨v', hnew⟩ := (unhide HLP).step (unhide AP) (unhide HWB) (unhide HPOS) (unhide HSZ) k hk (unhide HAG) hmt (unhide HPL) (unhide HQL)
          have HLQ := hide hnew
          clear hnew hmt hft
          simp only [put_list, List.set_cons_succ, List.set_cons_zero]
          go_wp2
          refine ⟨⟨j + 1, _, _, _, by omega, by go_num, unhide HLQ⟩, ?_⟩
          simp [Go.RowKit.intOf]; omega
        by_cases e4 : x.kd = 4
        · rw [e4] at d0
          have hcw := (unhide HLP).wt.cw k hk
          have hcx := (unhide HLP).wt.cx k hk
          go_wp2_with fail
          refine (wdone_any (B k) (V k) (P k).1 (P k).2 _ ((unhide HLP).wt.wd k hk) (unhide HLP).lay).mono ?_
          rintro e w10 ⟨rfl, hb10⟩
          have HLP2 := hide ((unhide HLP).below hb10)
          clear hb10 hcw hcx
          have hcw := (unhide HLP2).wt.cw k hk
          have hcx := (unhide HLP2).wt.cx k hk
          go_wp2_with fail
          refine (zdone_any (Z k) (Q k).1 (Q k).2 _ ((unhide HLP2).wt.zd k hk)).mono ?_
          rintro e w11 ⟨rfl, hb11⟩
          have HLQ := hide (((unhide HLP2).below hb11).next (szo_up os (unhide HSZ) j))
          have hag := agr_done ((unhide HLP).wt.agr k hk)
          rw [hag.1, hag.2]
          clear hag hb11 hcw hcx HLP HLP2
          generalize (if (Q k).2 = 0 then (Q k).1 else []) = s1 at *
          generalize (Q k).2 = s2 at *
          go_wp2
          refine ⟨⟨j + 1, _, _, _, by omega, by go_num, unhide HLQ⟩, ?_⟩
          simp [Go.RowKit.intOf]; omega
        have e1' : (x.kd == 1) = false := by simpa using e1
        have e2' : (x.kd == 2) = false := by simpa using e2
        have e3' : (x.kd == 3) = false := by simpa using e3
        have e4' : (x.kd == 4) = false := by simpa using e4
        have e5' : (x.kd == 5) = false := by simpa using e5
        have HLQ := hide ((unhide HLP).next (szo_up os (unhide HSZ) j))
        go_wp2
        refine ⟨⟨j + 1, _, _, _, by omega, by go_num, unhide HLQ⟩, ?_⟩
        simp [Go.RowKit.intOf]; omega
      · have hlt' : ¬ (j : Int) < (os.length : Int) + 3 := by omega
        have hd : decide (j < os.length + 3) = false := by simp; omega
        have HB := hide hlp.from_
        clear hlp
        go_wp2
        go_ret
        exact ⟨rfl, unhide HB⟩
end Go.Proofs.YthddilflldkmfaaDoor
