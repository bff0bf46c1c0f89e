import Derived.Test.YtpelmacblglhoaaZzbc
import Derived.Test.YtpelmacblglhoaaZzal
import Derived.Deep.CutRange
namespace Go.Proofs.Ytpelmacblglhoaa
open Go.RowKit
set_option maxHeartbeats 8000000
set_option maxRecDepth 8000
/-- While texts are lent. -/
structure LO (w0 : World) (K Z : Nat) (V : Value) (L : List Bs) (s : Ws) (w : World) : Prop where
  wi : WI w0 K Z none s w
  lr : w.ownsRow 0 9 1 V L.length (L.map S)
  lt : ∀ k, V.ownBlock = some k → s.tag k = (7, 0)
section
variable {w0 w w' : World} {K Z : Nat} {s : Ws} {V : Value} {L : List Bs}
theorem LO.below (h : LO w0 K Z V L s w) (hb : Below w.heap.size w w') : LO w0 K Z V L s w' := ⟨h.wi.below hb, owns_below h.lr hb, h.lt⟩
theorem LO.ext (h : LO w0 K Z V L s w) (t : Tg) : LO w0 K Z V L { s with tag := ext s.tag w.heap.size t } w := ⟨h.wi.ext t, h.lr, fun k hk => by show Go.Proofs.Ytpelmacblglhoaa.ext _ _ _ k = _; rw [ext_old (owns_blk h.lr k hk)]; exact h.lt k hk⟩
theorem LO.hand (h : LO w0 K Z V L s w) {hs' : List Value} (hO : Only (fun k => s.vh.ownBlock = some k) w w') (hr : w'.ownsRow 0 9 1 s.vh s.hn hs') : LO w0 K Z V L { s with hs := hs' } w' :=
  ⟨h.wi.hand hO hr, owns_only h.lr hO (fun k hk q => by have a := h.lt k hk; rw [h.wi.th k q] at a; exact absurd a (by decide)), h.lt⟩
/-- Of what is lent the first texts. -/
def hd (L : List Bs) (x : Bs) (i : Nat) (hs : List Value) : List Value := L.map S ++ List.replicate (i - L.length) (S x) ++ hs.drop i
theorem hd_start (L : List Bs) (x : Bs) (hs : List Value) : hd L x L.length hs = L.map S ++ hs.drop L.length := by simp [hd]
theorem hd_next (L : List Bs) (x : Bs) (i : Nat) (hs : List Value) (hi : L.length ≤ i) (hl : i < hs.length) : (hd L x i hs).set i (S x) = hd L x (i + 1) hs := by
  unfold hd
  have e1 : (L.map S ++ List.replicate (i - L.length) (S x)).length = i := by simp; omega
  rw [List.set_append_right _ _ (by omega), e1, Nat.sub_self, List.drop_eq_getElem_cons hl, List.set_cons_zero, show i + 1 - L.length = (i - L.length) + 1 by omega, List.replicate_succ']
  simp
theorem hd_low (L : List Bs) (x : Bs) (i j : Nat) (hs : List Value) (hj : j < L.length) : (hd L x i hs)[j]? = some (S (L.getD j [])) := by
  unfold hd
  rw [List.append_assoc, List.getElem?_append_left (by simpa using hj)]
  exact map_at S L [] j hj
theorem hd_mid (L : List Bs) (x : Bs) (i j : Nat) (hs : List Value) (hj : L.length ≤ j) (hi : j < i) : (hd L x i hs)[j]? = some (S x) := by
  unfold hd
  rw [List.append_assoc, List.getElem?_append_right (by simpa using hj), List.getElem?_append_left (by simp; omega), List.length_map, List.getElem?_replicate, if_pos (by omega)]
def spare : Bs := [115, 112, 97, 114, 101]
def overT : Bs := [111, 118, 101, 114]
theorem run_copy_none (w : World) (ty : TypeId) (v : Value) (g dn dc c : Nat) (hv : v = .slice (some ⟨g, 0, none⟩) dn dc) : (Builtin.copy_ #[28, 28] ty #[v, .slice none 0 c]).run Try.prog w = .ok (goInt 0) w := by
  subst hv
  obtain ⟨i0, hi, hz0, hz1, hz2⟩ := info_parts info9
  simp [Builtin.copy_, run_underlying Try.underlying28, Builtin.lenOf, Builtin.firstCells, sizeOf, typeInfo, hi, storeCells]
theorem info40 : (Try.prog.info? 40).map (fun i => (i.zero, i.size, i.bytes)) = some (some (.agg #[.pointer none, .pointer none]), 2, 16) := by kernel_rfl
theorem LO.copy (h : LO w0 K Z V L s w) {g c : Nat} (hv : s.vh = .slice (some ⟨g, 0, none⟩) s.hn c) (hn : L.length + 8 ≤ s.hn) (ty : TypeId) : ∃ w', (Builtin.copy_ #[28, 28] ty #[.slice (some ⟨g, 0, none⟩) (L.length + 8) c, V]).run Try.prog w = .ok (goInt L.length) w' ∧ LO w0 K Z V L { s with hs := hd L spare L.length s.hs } w' := by
  have hr := h.wi.rh
  have hlen := hr.1
  rcases h.lr.2 with ⟨e, e0⟩ | ⟨gl, cl, cur, e, _⟩
  · have hL : L = [] := List.eq_nil_of_length_eq_zero e0
    subst hL
    refine ⟨w, ?_, ?_⟩
    · rw [e]
      exact run_copy_none w ty _ g _ c 0 rfl
    · have : hd [] spare ([] : List Bs).length s.hs = s.hs := by simp [hd]
      rw [this]
      exact h
  · obtain ⟨g', c', cur', e1, e2, e3, e4, e5, e6⟩ := owns_at hr (by omega)
    rw [hv] at e1
    cases e1
    have hc := h.lr
    rw [e] at hc
    have hrun := run_copyk w 28 9 ty _ 1 16 Try.underlying28 info9 g 0 (L.length + 8) c ⟨gl, 0, none⟩ L.length cl cur' (L.map S) L.length (by show _ = min _ _; omega) e2 (by simp) (fun j v hj => by rw [add_at]; exact owns_cell hc j v hj) (by simp; omega) (by intro v hv; obtain ⟨x, _, rfl⟩ := List.mem_map.1 hv; rfl)
    refine ⟨_, by rw [e]; exact hrun, h.hand ((setRow_only w g _).mono (fun k _ q => by rw [hv, show k = g from q]; rfl)) ?_⟩
    rw [hv]
    refine ⟨by simp [hd]; omega, .inr ⟨g, c, _, rfl, Nat.zero_le _, setRow_heap w g cur' _ 9 _ e2, e3, e4, by simp; omega, ?_⟩⟩
    rw [hd_start]
    simp only [List.take_zero, List.nil_append, Nat.zero_add, List.length_map]
    rw [Nat.mul_one, List.take_append, List.take_of_length_le (by simp; omega), List.length_map, ← e6, Nat.mul_one, List.drop_take]
end
end Go.Proofs.Ytpelmacblglhoaa
