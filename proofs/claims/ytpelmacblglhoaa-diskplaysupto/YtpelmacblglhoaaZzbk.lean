import Derived.Test.YtpelmacblglhoaaZzbj
import Derived.Test.YtpelmacblglhoaaDsu
import Derived.Deep.CutRange
namespace Go.Proofs.Ytpelmacblglhoaa
open Go.RowKit
set_option maxHeartbeats 4000000
set_option maxRecDepth 8000
section
variable {w0 w w' : World} {K Z : Nat} {s : Ws} {ex : Option Nat}
theorem WI.addSide (h : WI w0 K Z none s w) {x : Sd} {vl' : Value} (hns : s.sd.length + 1 ≤ K)
    (hd : DAt x.D x.d x.vw x.vl w) (hr : RAt x.X x.r x.ul x.ui x.up w) (ho : Ok x.d) (hrel : Rel x.d x.r) (hac : 0 ≤ x.d.acts ∧ x.d.acts ≤ K)
    (htd : ∀ k, Of x.D x.vw x.vl k → s.tag k = (7, 1)) (htr : ∀ k, OfR x.X x.ul x.ui x.up k → s.tag k = (7, 2))
    (hO : Only (fun k => k = Z ∨ s.vl.ownBlock = some k) w w') (hb : w'.heap[Z]? = some (.cells ({ s with vl := vl' } : Ws).cs 30 (0, 0)))
    (hl : w'.ownsRow 0 40 2 vl' (s.sd.length + 1) (cellsS s.sd ++ [ptr x.D, ptr x.X])) (hn : ∀ k, vl'.ownBlock = some k → s.vl.ownBlock = some k ∨ w.heap.size ≤ k) :
    ∃ tag', WI w0 K Z none { s with tag := tag', vl := vl', sd := s.sd ++ [x] } w' := by
  obtain ⟨tag', htag⟩ : ∃ tag' : Nat → Tg, tag' = fun k => if k < w.heap.size then (if s.tag k = (7, 1) then (1, s.sd.length) else if s.tag k = (7, 2) then (2, s.sd.length) else s.tag k) else (0, 7) := ⟨_, rfl⟩
  have ha : ∀ k, k < w.heap.size → (s.tag k).1 ≠ 7 → tag' k = s.tag k := fun k hk h7 => by
    rw [htag]
    simp only
    rw [if_pos hk, if_neg (fun q => h7 (by rw [q])), if_neg (fun q => h7 (by rw [q]))]
  have h71 : ∀ k, k < w.heap.size → s.tag k = (7, 1) → tag' k = (1, s.sd.length) := fun k hk q => by rw [htag]; simp only; rw [if_pos hk, if_pos q]
  have h72 : ∀ k, k < w.heap.size → s.tag k = (7, 2) → tag' k = (2, s.sd.length) := fun k hk q => by rw [htag]; simp only; rw [if_pos hk, if_neg (by rw [q]; decide), if_pos q]
  have hA := h.ret ha
  have hQ : ∀ k, (k = Z ∨ s.vl.ownBlock = some k) → k < w.heap.size → tag' k = (0, 0) ∨ tag' k = (0, 7) := by
    rintro k (rfl | q) _
    · exact .inl hA.tz
    · exact .inr (hA.tl k q)
  have ne : ∀ {a b : Nat}, ((a, b) : Tg) ≠ (0, 0) → ((a, b) : Tg) ≠ (0, 7) → ∀ k, (k = Z ∨ s.vl.ownBlock = some k) → k < w.heap.size → tag' k ≠ (a, b) := by
    intro a b n0 n1 k hk hl e
    rcases hQ k hk hl with q | q <;> rw [q] at e
    · exact n0 e.symm
    · exact n1 e.symm
  have npv : ∀ {κ : Nat}, ∀ k, (k = Z ∨ s.vl.ownBlock = some k) → k < w.heap.size → ¬ Pv κ 0 (tag' k) := by
    intro κ k hk hl e
    rcases e with e | ⟨_, e⟩
    · exact ne (by decide) (by decide) k hk hl e
    · omega
  have n3 : ∀ {a b : Nat}, a ≠ 0 → ∀ k, (k = Z ∨ s.vl.ownBlock = some k) → k < w.heap.size → tag' k ≠ (a, b) := fun h => ne (tg_ne h) (tg_ne h)
  refine ⟨tag', hb, hA.tz, by rw [List.length_append, cellsS_append]; exact hl, fun k hk => ?_, fun i y hy _ => ?_,
    hA.b1.only hO (fun k q l => ⟨ne (by decide) (by decide) k q l, fun i _ => n3 (by decide) k q l⟩),
    hA.u1.only hO (fun k q l => ⟨ne (by decide) (by decide) k q l, ne (by decide) (by decide) k q l⟩),
    hA.d1.only hO (fun k q l => ⟨ne (by decide) (by decide) k q l, npv k q l⟩),
    hA.b2.only hO (fun k q l => ⟨ne (by decide) (by decide) k q l, fun i _ => n3 (by decide) k q l⟩),
    hA.u2.only hO (fun k q l => ⟨ne (by decide) (by decide) k q l, ne (by decide) (by decide) k q l⟩),
    hA.d2.only hO (fun k q l => ⟨ne (by decide) (by decide) k q l, npv k q l⟩),
    hA.e1, hA.e2, hA.n1, hA.n2, by rw [List.length_append]; exact hns,
    owns_only hA.rh hO (fun k hk q => ne (by decide) (by decide) k q (owns_blk hA.rh k hk) (hA.th k hk)), hA.th,
    hA.old.trans ⟨hO.os, hO.tape, hO.output, hO.size, fun k hk => hO.block k (Nat.lt_of_lt_of_le hk hA.old.size) (fun q => ne (by decide) (by decide) k q (Nat.lt_of_lt_of_le hk hA.old.size) (hA.told k hk))⟩, hA.told⟩
  · rcases hn k hk with q | q
    · exact hA.tl k q
    · show tag' k = _
      rw [htag]
      simp only
      rw [if_neg (by omega)]
  · have hy' : (s.sd ++ [x])[i]? = some y := hy
    by_cases e : i < s.sd.length
    · rw [List.getElem?_append_left e] at hy'
      exact (hA.so i y hy' (by simp)).only hO (fun k q l => ⟨n3 (by decide) k q l, n3 (by decide) k q l⟩)
    · rw [List.getElem?_append_right (by omega)] at hy'
      have e0 : i - s.sd.length = 0 := by
        have := (List.getElem?_eq_some_iff.1 hy').1
        simp at this
        omega
      rw [e0] at hy'
      simp at hy'
      subst hy'
      have ei : i = s.sd.length := by omega
      subst ei
      have a1 : ∀ k, Of x.D x.vw x.vl k → tag' k = (1, s.sd.length) := fun k hk => h71 k (hd.old k hk) (htd k hk)
      have a2 : ∀ k, OfR x.X x.ul x.ui x.up k → tag' k = (2, s.sd.length) := fun k hk => h72 k (hr.old k hk) (htr k hk)
      exact ⟨hd.only hO (fun k hk q => n3 (by decide) k q (hd.old k hk) (a1 k hk)), hr.only hO (fun k hk q => n3 (by decide) k q (hr.old k hk) (a2 k hk)), ho, hrel, hac, a1, a2⟩
/-- What is lent has other texts. -/
theorem WI.hand (h : WI w0 K Z ex s w) {hs' : List Value} (hO : Only (fun k => s.vh.ownBlock = some k) w w') (hr : w'.ownsRow 0 9 1 s.vh s.hn hs') : WI w0 K Z ex { s with hs := hs' } w' := by
  have ne : ∀ {a b : Nat}, ((a, b) : Tg) ≠ (0, 8) → ∀ k, s.vh.ownBlock = some k → s.tag k ≠ (a, b) := fun n k q e => n (by rw [← e]; exact h.th k q)
  have npv : ∀ {κ : Nat}, ∀ k, s.vh.ownBlock = some k → ¬ Pv κ 0 (s.tag k) := by
    intro κ k hk e
    rcases e with e | ⟨_, e⟩
    · exact ne (by decide) k hk e
    · omega
  have n3 : ∀ {a b : Nat}, a ≠ 0 → ∀ k, s.vh.ownBlock = some k → s.tag k ≠ (a, b) := fun h => ne (tg_ne h)
  exact ⟨(hO.block Z h.lt (fun q => ne (by decide) Z q h.tz)).trans h.blk, h.tz, owns_only h.rl hO (fun k hk q => ne (by decide) k q (h.tl k hk)), h.tl, fun i y hy hi => (h.so i y hy hi).only hO (fun k q l => ⟨n3 (by decide) k q, n3 (by decide) k q⟩),
    h.b1.only hO (fun k q l => ⟨ne (by decide) k q, fun i _ => n3 (by decide) k q⟩),
    h.u1.only hO (fun k q l => ⟨ne (by decide) k q, ne (by decide) k q⟩),
    h.d1.only hO (fun k q l => ⟨ne (by decide) k q, npv k q⟩),
    h.b2.only hO (fun k q l => ⟨ne (by decide) k q, fun i _ => n3 (by decide) k q⟩),
    h.u2.only hO (fun k q l => ⟨ne (by decide) k q, ne (by decide) k q⟩),
    h.d2.only hO (fun k q l => ⟨ne (by decide) k q, npv k q⟩),
    h.e1, h.e2, h.n1, h.n2, h.ns, hr, h.th,
    h.old.trans ⟨hO.os, hO.tape, hO.output, hO.size, fun k hk => hO.block k (Nat.lt_of_lt_of_le hk h.old.size) (fun q => ne (by decide) k q (h.told k hk))⟩, h.told⟩
/-- New memory to lend. -/
theorem WI.newHand (h : WI w0 K Z ex s w) {g n : Nat} {hs' : List Value} (hr : w.ownsRow 0 9 1 (.slice (some ⟨g, 0, none⟩) n n) n hs') (ht : (s.tag g).1 = 7) : ∃ tag', (tag' g = (0, 8)) ∧ (∀ k, k ≠ g → tag' k = s.tag k) ∧ WI w0 K Z ex { s with tag := tag', vh := .slice (some ⟨g, 0, none⟩) n n, hn := n, hs := hs' } (w.setCell ⟨Z, 7, none⟩ (.slice (some ⟨g, 0, none⟩) n n)) := by
  obtain ⟨tag', htag⟩ : ∃ tag' : Nat → Tg, tag' = fun k => if k = g then (0, 8) else s.tag k := ⟨_, rfl⟩
  have tg1 : tag' g = (0, 8) := by rw [htag]; simp
  have tg2 : ∀ k, k ≠ g → tag' k = s.tag k := fun k hk => by rw [htag]; simp [hk]
  have ha : ∀ k, k < w.heap.size → (s.tag k).1 ≠ 7 → tag' k = s.tag k := fun k hk h7 => tg2 k (fun q => h7 (by rw [q]; exact ht))
  have hA := h.ret ha
  have hO := Only.setCell w ⟨Z, 7, none⟩ (.slice (some ⟨g, 0, none⟩) n n)
  have hgZ : g ≠ Z := fun q => by rw [q, h.tz] at ht; simp at ht
  have ne : ∀ {a b : Nat}, ((a, b) : Tg) ≠ (0, 0) → ∀ k, k = Z → tag' k ≠ (a, b) := fun n k q e => n (by rw [← e, q]; exact hA.tz)
  have npv : ∀ {κ : Nat}, ∀ k, k = Z → ¬ Pv κ 0 (tag' k) := by
    intro κ k hk e
    rcases e with e | ⟨_, e⟩
    · exact ne (by decide) k hk e
    · omega
  have n3 : ∀ {a b : Nat}, a ≠ 0 → ∀ k, k = Z → tag' k ≠ (a, b) := fun h => ne (tg_ne h)
  exact ⟨tag', tg1, tg2, heap_setCell_same w Z 7 _ 30 _ h.blk, hA.tz, owns_only hA.rl hO (fun k hk q => ne (by decide) k q (hA.tl k hk)), hA.tl, fun i y hy hi => (hA.so i y hy hi).only hO (fun k q l => ⟨n3 (by decide) k q, n3 (by decide) k q⟩),
    hA.b1.only hO (fun k q l => ⟨ne (by decide) k q, fun i _ => n3 (by decide) k q⟩),
    hA.u1.only hO (fun k q l => ⟨ne (by decide) k q, ne (by decide) k q⟩),
    hA.d1.only hO (fun k q l => ⟨ne (by decide) k q, npv k q⟩),
    hA.b2.only hO (fun k q l => ⟨ne (by decide) k q, fun i _ => n3 (by decide) k q⟩),
    hA.u2.only hO (fun k q l => ⟨ne (by decide) k q, ne (by decide) k q⟩),
    hA.d2.only hO (fun k q l => ⟨ne (by decide) k q, npv k q⟩),
    hA.e1, hA.e2, hA.n1, hA.n2, hA.ns, owns_only hr hO (fun k hk q => by cases hk; exact hgZ q), fun k hk => by cases hk; exact tg1,
    hA.old.trans ⟨hO.os, hO.tape, hO.output, hO.size, fun k hk => hO.block k (Nat.lt_of_lt_of_le hk hA.old.size) (fun q => ne (by decide) k q (hA.told k hk))⟩, hA.told⟩
end
end Go.Proofs.Ytpelmacblglhoaa
namespace Go.Proofs.Ytpelmacblglhoaa
open Go.RowKit
set_option maxHeartbeats 8000000
set_option maxRecDepth 8000
/-- While texts are lent. -/
structure LO (w0 : World) (K Z : Nat) (V : Value) (L : List Bs) (s : Ws) (w : World) : Prop where
  wi : WI w0 K Z none s w
  lr : w.ownsRow 0 9 1 V L.length (L.map S)
  lt : ∀ k, V.ownBlock = some k → s.tag k = (7, 0)
section
variable {w0 w w' : World} {K Z : Nat} {s : Ws} {V : Value} {L : List Bs}
theorem LO.below (h : LO w0 K Z V L s w) (hb : Below w.heap.size w w') : LO w0 K Z V L s w' := ⟨h.wi.below hb, owns_below h.lr hb, h.lt⟩
theorem LO.ext (h : LO w0 K Z V L s w) (t : Tg) : LO w0 K Z V L { s with tag := ext s.tag w.heap.size t } w := ⟨h.wi.ext t, h.lr, fun k hk => by show Go.Proofs.Ytpelmacblglhoaa.ext _ _ _ k = _; rw [ext_old (owns_blk h.lr k hk)]; exact h.lt k hk⟩
theorem LO.hand (h : LO w0 K Z V L s w) {hs' : List Value} (hO : Only (fun k => s.vh.ownBlock = some k) w w') (hr : w'.ownsRow 0 9 1 s.vh s.hn hs') : LO w0 K Z V L { s with hs := hs' } w' :=
  ⟨h.wi.hand hO hr, owns_only h.lr hO (fun k hk q => by have a := h.lt k hk; rw [h.wi.th k q] at a; exact absurd a (by decide)), h.lt⟩
/-- Of what is lent the first texts. -/
def hd (L : List Bs) (x : Bs) (i : Nat) (hs : List Value) : List Value := L.map S ++ List.replicate (i - L.length) (S x) ++ hs.drop i
theorem hd_start (L : List Bs) (x : Bs) (hs : List Value) : hd L x L.length hs = L.map S ++ hs.drop L.length := by simp [hd]
theorem hd_next (L : List Bs) (x : Bs) (i : Nat) (hs : List Value) (hi : L.length ≤ i) (hl : i < hs.length) : (hd L x i hs).set i (S x) = hd L x (i + 1) hs := by
  unfold hd
  have e1 : (L.map S ++ List.replicate (i - L.length) (S x)).length = i := by simp; omega
  rw [List.set_append_right _ _ (by omega), e1, Nat.sub_self, List.drop_eq_getElem_cons hl, List.set_cons_zero, show i + 1 - L.length = (i - L.length) + 1 by omega, List.replicate_succ']
  simp
theorem hd_low (L : List Bs) (x : Bs) (i j : Nat) (hs : List Value) (hj : j < L.length) : (hd L x i hs)[j]? = some (S (L.getD j [])) := by
  unfold hd
  rw [List.append_assoc, List.getElem?_append_left (by simpa using hj)]
  exact map_at S L [] j hj
theorem hd_mid (L : List Bs) (x : Bs) (i j : Nat) (hs : List Value) (hj : L.length ≤ j) (hi : j < i) : (hd L x i hs)[j]? = some (S x) := by
  unfold hd
  rw [List.append_assoc, List.getElem?_append_right (by simpa using hj), List.getElem?_append_left (by simp; omega), List.length_map, List.getElem?_replicate, if_pos (by omega)]
def spare : Bs := [115, 112, 97, 114, 101]
def overT : Bs := [111, 118, 101, 114]
theorem run_copy_none (w : World) (ty : TypeId) (v : Value) (g dn dc c : Nat) (hv : v = .slice (some ⟨g, 0, none⟩) dn dc) : (Builtin.copy_ #[28, 28] ty #[v, .slice none 0 c]).run Try.prog w = .ok (goInt 0) w := by
  subst hv
  obtain ⟨i0, hi, hz0, hz1, hz2⟩ := info_parts info9
  simp [Builtin.copy_, run_underlying Try.underlying28, Builtin.lenOf, Builtin.firstCells, sizeOf, typeInfo, hi, storeCells]
theorem info40 : (Try.prog.info? 40).map (fun i => (i.zero, i.size, i.bytes)) = some (some (.agg #[.pointer none, .pointer none]), 2, 16) := by kernel_rfl
theorem LO.copy (h : LO w0 K Z V L s w) {g c : Nat} (hv : s.vh = .slice (some ⟨g, 0, none⟩) s.hn c) (hn : L.length + 8 ≤ s.hn) (ty : TypeId) : ∃ w', (Builtin.copy_ #[28, 28] ty #[.slice (some ⟨g, 0, none⟩) (L.length + 8) c, V]).run Try.prog w = .ok (goInt L.length) w' ∧ LO w0 K Z V L { s with hs := hd L spare L.length s.hs } w' := by
  have hr := h.wi.rh
  have hlen := hr.1
  rcases h.lr.2 with ⟨e, e0⟩ | ⟨gl, cl, cur, e, _⟩
  · have hL : L = [] := List.eq_nil_of_length_eq_zero e0
    subst hL
    refine ⟨w, ?_, ?_⟩
    · rw [e]
      exact run_copy_none w ty _ g _ c 0 rfl
    · have : hd [] spare ([] : List Bs).length s.hs = s.hs := by simp [hd]
      rw [this]
      exact h
  · obtain ⟨g', c', cur', e1, e2, e3, e4, e5, e6⟩ := owns_at hr (by omega)
    rw [hv] at e1
    cases e1
    have hc := h.lr
    rw [e] at hc
    have hrun := run_copyk w 28 9 ty _ 1 16 Try.underlying28 info9 g 0 (L.length + 8) c ⟨gl, 0, none⟩ L.length cl cur' (L.map S) L.length (by show _ = min _ _; omega) e2 (by simp) (fun j v hj => by rw [add_at]; exact owns_cell hc j v hj) (by simp; omega) (by intro v hv; obtain ⟨x, _, rfl⟩ := List.mem_map.1 hv; rfl)
    refine ⟨_, by rw [e]; exact hrun, h.hand ((setRow_only w g _).mono (fun k _ q => by rw [hv, show k = g from q]; rfl)) ?_⟩
    rw [hv]
    refine ⟨by simp [hd]; omega, .inr ⟨g, c, _, rfl, Nat.zero_le _, setRow_heap w g cur' _ 9 _ e2, e3, e4, by simp; omega, ?_⟩⟩
    rw [hd_start]
    simp only [List.take_zero, List.nil_append, Nat.zero_add, List.length_map]
    rw [Nat.mul_one, List.take_append, List.take_of_length_le (by simp; omega), List.length_map, ← e6, Nat.mul_one, List.drop_take]
end
end Go.Proofs.Ytpelmacblglhoaa
