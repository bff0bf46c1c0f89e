import Derived.Test.YtllialbdofklgaaGreatDoorZnpk
import Derived.Test.YtllialbdofklgaaGreatDoorNpo
namespace Go.Proofs.YtllialbdofklgaaGreatDoor
open Go.RowKit
set_option maxHeartbeats 16000000
set_option maxRecDepth 8000
def zro : Nd := ⟨false, [], [], []⟩
/-- What a Split answers: two nodes, the key between them, an error. -/
def Cut (n m1 : Nd) (key : Bs) (m2 : Nd) (er : Nat) : Prop :=
  (wsv n ≠ 0 ∧ m1 = zro ∧ key = [] ∧ m2 = zro ∧ er = wsv n) ∨ (wsv n = 0 ∧ er = 0 ∧ ∃ i, Plc n i ∧ m1 = lft n i ∧ key = kbt n i ∧ m2 = rgt n i)
theorem Cut.uniq {n m1 m2 l1 l2 : Nd} {k j : Bs} {e f : Nat} (h : Cut n m1 k m2 e) (g : Cut n l1 j l2 f) : m1 = l1 ∧ k = j ∧ m2 = l2 ∧ e = f := by
  rcases h with ⟨h0, rfl, rfl, rfl, rfl⟩ | ⟨h0, rfl, i, hp, rfl, rfl, rfl⟩
  · rcases g with ⟨g0, rfl, rfl, rfl, rfl⟩ | ⟨g0, _⟩
    · exact ⟨rfl, rfl, rfl, rfl⟩
    · exact absurd g0 h0
  · rcases g with ⟨g0, _⟩ | ⟨g0, rfl, i', gp, rfl, rfl, rfl⟩
    · exact absurd h0 g0
    · obtain rfl := hp.uniq gp
      exact ⟨rfl, rfl, rfl, rfl⟩
theorem NB.zro : NB zro := ⟨by decide, by decide, by decide, by decide, by decide⟩
theorem Cut.nb {n m1 m2 : Nd} {k : Bs} {e : Nat} (h : Cut n m1 k m2 e) (hb : NB n) : NB m1 ∧ NB m2 := by
  rcases h with ⟨h0, rfl, rfl, rfl, rfl⟩ | ⟨h0, rfl, i, hp, rfl, rfl, rfl⟩
  · exact ⟨NB.zro, NB.zro⟩
  · exact ⟨hb.lft i, hb.rgt i⟩
theorem Rws.zro (B : Nat) (w : World) : Rws B Go.Proofs.YtllialbdofklgaaGreatDoor.zro (.slice none 0 0) (.slice none 0 0) (.slice none 0 0) w :=
  ⟨owns_nil _ _ _, owns_nil _ _ _, owns_nil _ _ _, (fun _ q => nomatch q), (fun _ q => nomatch q), (fun _ q => nomatch q)⟩
theorem dsj_nil (v : Value) : dsj (.slice none 0 0) v := fun _ q => nomatch q
/-- Split 37, of every node. -/
theorem split_all (n : Nd) (ka va ia : Option Addr) (kc vc ic : Nat) (w : World) (h : NA n ka va ia w) (hb : NB n) (ck : n.keys.length ≤ kc) (cv : n.vals.length ≤ vc) (ci : n.kids.length ≤ ic) (hic : ic ≤ 9223372036854775807) :
    Calls Tryz.prog 37 #[nda n ka va ia kc vc ic] w fun r w' => ∃ m1 key m2 er vK vV vI uK uV uI, Cut n m1 key m2 er ∧ r = .returned (.tuple #[.agg #[.bool m1.leaf, vK, vV, vI], S key, .agg #[.bool m2.leaf, uK, uV, uI], I er]) ∧ Rws w.heap.size m1 vK vV vI w' ∧ Rws w.heap.size m2 uK uV uI w' ∧ (Apt vK vV vI ∧ Apt uK uV uI ∧ Ap2 vK vV vI uK uV uI) ∧ Below w.heap.size w w' := by
  by_cases h0 : wsv n = 0
  · have hg := wsv_grt h0
    refine (split2_any n ka va ia kc vc ic w h hb hg ck cv ci hic (grt_las hg)).mono ?_
    rintro e w' ⟨i, vK, vV, vI, uK, uV, uI, hp, rfl, r1, r2, a, b⟩
    exact ⟨lft n i, kbt n i, rgt n i, 0, vK, vV, vI, uK, uV, uI, .inr ⟨h0, rfl, i, hp, rfl, rfl, rfl⟩, by rw [lft_leaf, rgt_leaf]; rfl, r1, r2, a, b⟩
  · refine (split_err n ka va ia kc vc ic w h hb h0).mono ?_
    rintro e w' ⟨rfl, b⟩
    exact ⟨zro, [], zro, wsv n, .slice none 0 0, .slice none 0 0, .slice none 0 0, .slice none 0 0, .slice none 0 0, .slice none 0 0, .inl ⟨h0, rfl, rfl, rfl, rfl⟩, rfl, Rws.zro _ _, Rws.zro _ _, ⟨⟨dsj_nil _, dsj_nil _, dsj_nil _⟩, ⟨dsj_nil _, dsj_nil _, dsj_nil _⟩, ⟨dsj_nil _, dsj_nil _, dsj_nil _⟩, ⟨dsj_nil _, dsj_nil _, dsj_nil _⟩, ⟨dsj_nil _, dsj_nil _, dsj_nil _⟩⟩, b⟩
/-- The document's Split 56, likewise. -/
theorem refSplit_all (n : Nd) (ka va ia : Option Addr) (kc vc ic : Nat) (w : World) (h : NA n ka va ia w) (hb : NB n) (ck : n.keys.length ≤ kc) (cv : n.vals.length ≤ vc) (ci : n.kids.length ≤ ic) (hic : ic ≤ 9223372036854775807) :
    Calls Tryz.prog 56 #[nda n ka va ia kc vc ic] w fun r w' => ∃ m1 key m2 er vK vV vI uK uV uI, Cut n m1 key m2 er ∧ r = .returned (.tuple #[.agg #[.bool m1.leaf, vK, vV, vI], S key, .agg #[.bool m2.leaf, uK, uV, uI], I er]) ∧ Rws w.heap.size m1 vK vV vI w' ∧ Rws w.heap.size m2 uK uV uI w' ∧ Below w.heap.size w w' := by
  refine (refSplit_any n ka va ia kc vc ic w h hb ck cv ci hic).mono ?_
  rintro e w' (⟨h0, rfl, b⟩ | ⟨h0, i, vK, vV, vI, uK, uV, uI, hp, rfl, r1, r2, b⟩)
  · exact ⟨zro, [], zro, wsv n, .slice none 0 0, .slice none 0 0, .slice none 0 0, .slice none 0 0, .slice none 0 0, .slice none 0 0, .inl ⟨h0, rfl, rfl, rfl, rfl⟩, rfl, Rws.zro _ _, Rws.zro _ _, b⟩
  · exact ⟨lft n i, kbt n i, rgt n i, 0, vK, vV, vI, uK, uV, uI, .inr ⟨h0, rfl, i, hp, rfl, rfl, rfl⟩, by rw [lft_leaf, rgt_leaf]; rfl, r1, r2, b⟩
theorem sam_self (n : Nd) : sam n n = true := by simp [sam]
end Go.Proofs.YtllialbdofklgaaGreatDoor
