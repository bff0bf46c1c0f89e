import Derived.Test.YtknlafgaagimjaaDoorHld
import Derived.Test.YtknlafgaagimjaaDoorRgh
import Derived.Test.YtknlafgaagimjaaDoorScq
import Derived.Laws.AppendOwnNone
namespace Go.Proofs.YtknlafgaagimjaaDoor
open Go.RowKit Go.Lib
/-- append(l, x...), where l is nil and x a list that came out. -/
theorem appendR {ops : Array Oper} {rest : List Oper} {o : Oper} {a : Act} {w : World} {Q : Exit → Act → World → Prop} (hgd : o.guard = none) (s x : Operand)
    (ho : o.op = .call { callee := .builtin .append, args := #[s, x], argTypes := #[24, 24] }) (hs : a.eval s = .slice none 0 0) (v : Value) (l : List Bs) (hx : a.eval x = v) (hv : Row w v l) (hn : l.length ≤ 2147483648)
    (h : ∀ p c w', Own w.heap.size w' (.slice p l.length c) l → Below w.heap.size w w' → wpList Tryd.prog ops Q rest (a.put o.dst (.slice p l.length c)) w') : wpList Tryd.prog ops Q (o :: rest) a w := by
  rcases hv.form with ⟨e, el⟩ | ⟨g, cap, cur, e, _⟩
  · obtain ⟨i0, hi, hz0, hz1, hz2⟩ := info_parts info9
    have := h none 0 w (by rw [el]; exact own_nil _ _) (Below.refl _ _)
    rw [el] at this
    exact wpList_append_own_none hgd s x 24 ho w.heap.size 9 i0 1 Tryd.underlying24 hi (.slice none 0 0) 0 [] hs (World.ownsRow_nil _ _ _ _) (by rw [hx, e]) this
  · obtain ⟨p, c, e2, hst⟩ := hv.fls
    rw [e] at e2
    cases e2
    exact appendS hgd s x ho hs g l.length cap l (by rw [hx, e]) hst hn h
theorem only_none {w w' : World} (h : Only (fun k => (Value.slice none 0 0).ownBlock = some k) w w') : Below w.heap.size w w' := ⟨h.os, h.tape, h.output, h.size, fun k hk => h.block k hk (fun e => by cases e)⟩
theorem only_seq {B : Nat} {w w' : World} {bv : Value} {xs : List Value} (hs : Seq B 24 w bv xs) (hB : B ≤ w.heap.size) (h : Only (fun k => bv.ownBlock = some k) w w') : Below B w w' :=
  h.below (Below.refl _ _) hB (fun k e => hs.high k e)
theorem off_none (a : Option Addr) (n : Nat) : Off (.slice none 0 0) a n := fun _ _ _ _ e => by cases e
theorem off_low {B : Nat} {w : World} {bv : Value} {xs : List Value} {a : Option Addr} {n : Nat} {l : List Bs} {W : World} (hs : Seq B 24 w bv xs) (hst : Sts W a n l) (hW : W.heap.size ≤ B) : Off bv a n := fun h0 p o e q => by
  obtain ⟨p', o', e', hc⟩ := hst.2 h0
  rw [e] at e'
  cases e'
  have h1 := blk_lt (hc 0 h0)
  have h2 := hs.high p q
  omega
theorem off_blk {B : Nat} {w : World} {bv : Value} {xs : List Value} {g n : Nat} (hs : Seq B 24 w bv xs) (hg : g < B) : Off bv (some ⟨g, 0, none⟩) n := fun _ p o e q => by
  cases e
  have := hs.high g q
  omega
theorem Prs.onlyG {B g : Nat} {ps : List (Value × List Bs)} {w w' : World} (h : Prs B ps w) (hg : g < B) (ho : Only (fun k => k = g) w w') : Prs B ps w' :=
  ⟨fun p hp => (h.row p hp).keep fun k hk => ho.block k ((h.row p hp).lt k hk) (fun e => by have := h.above p hp k hk; omega), h.apart, h.above⟩
theorem Seq.onlyG {B g : Nat} {w w' : World} {bv : Value} {xs : List Value} (h : Seq B 24 w bv xs) (hg : g < B) (ho : Only (fun k => k = g) w w') : Seq B 24 w' bv xs :=
  h.keep fun k hk => ho.block k (h.lt k hk) (fun e => by have := h.high k hk; omega)
theorem Prs.onlyV {B C : Nat} {ps : List (Value × List Bs)} {w w' : World} {bv : Value} (h : Prs B ps w) (hv : ∀ k, bv.ownBlock = some k → k < C) (hC : C ≤ B) (ho : Only (fun k => bv.ownBlock = some k) w w') : Prs B ps w' :=
  ⟨fun p hp => (h.row p hp).keep fun k hk => ho.block k ((h.row p hp).lt k hk) (fun e => by have := h.above p hp k hk; have := hv k e; omega), h.apart, h.above⟩
theorem Seq.onlyV {B C : Nat} {w w' : World} {bv lv : Value} {xs : List Value} (h : Seq B 24 w lv xs) (hv : ∀ k, bv.ownBlock = some k → k < C) (hC : C ≤ B) (ho : Only (fun k => bv.ownBlock = some k) w w') : Seq B 24 w' lv xs :=
  h.keep fun k hk => ho.block k (h.lt k hk) (fun e => by have := h.high k hk; have := hv k e; omega)
/-- The second rows hold what the first hold. -/
def Cpy (ps qs : List (Value × List Bs)) : Prop := ∀ j, j < qs.length → (qs.getD j (undef, [])).2 = (ps.getD j (undef, [])).2
theorem Cpy.snoc {ps qs : List (Value × List Bs)} (h : Cpy ps qs) (v : Value) : Cpy ps (qs ++ [(v, (ps.getD qs.length (undef, [])).2)]) := by
  intro j hj
  rw [List.length_append, List.length_singleton] at hj
  by_cases e : j < qs.length
  · have := h j e
    rw [List.getD_eq_getElem?_getD, List.getElem?_append_left e, ← List.getD_eq_getElem?_getD]
    exact this
  · have : j = qs.length := by omega
    subst this
    simp
/-- Lists of few and short names. -/
def Few (ps : List (Value × List Bs)) : Prop := ∀ p ∈ ps, p.2.length ≤ 8
theorem few_three (v1 v2 v3 : Value) (x y : List Bs) {ps : List (Value × List Bs)} (h : Few ps) : Few (ps ++ [(v1, (join x y).1), (v2, meet x y), (v3, minus x y)]) := by
  intro p hp
  rcases List.mem_append.1 hp with q | q
  · exact h p q
  · simp at q
    rcases q with rfl | rfl | rfl
    · exact (join_small x y).1
    · exact (meet_small x y).1
    · exact (minus_small x y).1
theorem Few.at {ps : List (Value × List Bs)} (h : Few ps) (j : Nat) : ((ps.getD j (undef, [])).2).length ≤ 8 := by
  by_cases hj : j < ps.length
  · have e : ps.getD j (undef, []) = ps[j] := by simp [hj]
    rw [e]
    exact h _ (List.getElem_mem hj)
  · have e : ps.getD j (undef, []) = (undef, []) := by simp [List.getElem?_eq_none (Nat.le_of_not_lt hj)]
    rw [e]
    simp
theorem held_go (B : Nat) (pb : Option Addr) (cb : Nat) (ps : List (Value × List Bs)) (a : Option Addr) (n cap : Nat) (a2 : Option Addr) (n2 cap2 : Nat) (c : Option Addr) (m ccap : Nat) (d : Option Addr) (m2 dcap : Nat) (x y : List Bs) (w : World)
    (hseq : Seq B 24 w (.slice pb ps.length cb) (ps.map Prod.fst)) (hprs : Prs B ps w) (hB : B ≤ w.heap.size) (hps : ps.length ≤ 100) (hfew : Few ps) (ha : Lsr w a n x) (hb : Lsr w a2 n2 y) (hc : Lsr w c m x) (hd : Lsr w d m2 y)
    (fa : Off (.slice pb ps.length cb) a n) (fb : Off (.slice pb ps.length cb) a2 n2) (fc : Off (.slice pb ps.length cb) c m) (fd : Off (.slice pb ps.length cb) d m2) :
    Calls Tryd.prog 18 #[.slice pb ps.length cb, .slice a n cap, .slice a2 n2 cap2, .slice c m ccap, .slice d m2 dcap] w fun e w' => ∃ p c qs, e = .returned (.tuple #[.slice p (ps.length + 3) c, .bool true]) ∧ qs.length = ps.length + 3 ∧
      (∀ j, j < ps.length → qs.getD j (undef, []) = ps.getD j (undef, [])) ∧ Few qs ∧ Seq B 24 w' (.slice p qs.length c) (qs.map Prod.fst) ∧ Prs B qs w' ∧ Only (fun k => (Value.slice pb ps.length cb).ownBlock = some k) w w' := by
  refine (held_any B pb ps.length cb ps a n cap a2 n2 cap2 c m ccap d m2 dcap x y w hseq hprs hB hps ha hb hc hd fa fb fc fd).mono ?_
  rintro e w' ⟨bv, v1, v2, v3, rfl, h1, h2, h3⟩
  obtain ⟨p, c', e⟩ := h1.len
  rw [List.length_map] at e
  subst e
  refine ⟨p, c', _, by simp, by simp, fun j hj => ?_, few_three v1 v2 v3 x y hfew, h1, h2, h3⟩
  rw [List.getD_eq_getElem?_getD, List.getElem?_append_left hj, ← List.getD_eq_getElem?_getD]
end Go.Proofs.YtknlafgaagimjaaDoor
