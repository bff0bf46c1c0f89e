import Derived.Test.YtllialbdofklgaaGreatDoorNdc
import Derived.Lib.Strings
namespace Go.Proofs.YtllialbdofklgaaGreatDoor
open Go.RowKit
set_option maxHeartbeats 4000000
set_option maxRecDepth 8000
theorem ext0 (b : Bs) (k : Nat) : (⟨b.toArray⟩ : ByteArray).extract 0 k = ⟨(b.take k).toArray⟩ := by
  rw [Go.Lib.extract_eq]
  simp
theorem between_any (a b : Bs) (w : World) (ha : a.length ≤ 4294967296) (hb : b.length ≤ 4294967296) :
    Calls Tryz.prog 27 #[S a, S b] w fun e w' => e = .returned (S (btw a b)) ∧ Below w.heap.size w w' := by
  have hq := fun W => run_geq a b W
  have H1 := hide (alike_any a b w ha hb)
  unfold btw
  by_cases h : a < b
  · rw [show decide (¬ a < b) = false by simp [h]] at hq
    rw [if_pos h]
    have hl := alk_lt h
    generalize alk a b = k at *
    have H2 := fun W => hide (clone_any (b.take (k + 1)) W (by simp; omega))
    clear h
    go_enter Tryz.func27, Tryz.ntmps27
    go_wp2_with fail
    refine (unhide H1).mono ?_
    rintro e w1 ⟨rfl, q, rfl⟩
    go_wp2_with fail
    rw [ext0]
    refine (unhide (H2 _)).mono ?_
    rintro e w1 ⟨rfl, b2⟩
    have HB := hide (show Below w.heap.size w w1 from (bel_q (Below.refl _ _) q).trans b2)
    clear b2
    go_wp2
    go_ret
    exact ⟨rfl, unhide HB⟩
  · rw [show decide (¬ a < b) = true by simp [h]] at hq
    rw [if_neg h]
    have H2 := fun W => hide (clone_any b W (by omega))
    clear h H1
    go_enter Tryz.func27, Tryz.ntmps27
    go_wp2_with fail
    refine (unhide (H2 _)).mono ?_
    rintro e w1 ⟨rfl, b2⟩
    have HB := hide b2
    clear b2
    go_wp2
    go_ret
    exact ⟨rfl, unhide HB⟩
/-- A node in memory. -/
def nda (n : Nd) (ka va ia : Option Addr) (kc vc ic : Nat) : Value := .agg #[.bool n.leaf, .slice ka n.keys.length kc, .slice va n.vals.length vc, .slice ia n.kids.length ic]
structure NA (n : Nd) (ka va ia : Option Addr) (w : World) : Prop where
  ks : Sts w ka n.keys.length n.keys
  vs : Sts w va n.vals.length n.vals
  is : Ins w ia n.kids.length n.kids
theorem NA.below {n : Nd} {ka va ia : Option Addr} {w w' : World} (h : NA n ka va ia w) (hb : Below w.heap.size w w') : NA n ka va ia w' := ⟨h.ks.below hb, h.vs.below hb, h.is.below hb⟩
/-- It is no greater than the document's bound. -/
structure NB (n : Nd) : Prop where
  k : n.keys.length ≤ 4294967296
  v : n.vals.length ≤ 4294967296
  i : n.kids.length ≤ 4294967296
  kt : tot n.keys ≤ 4294967296
  vt : tot n.vals ≤ 4294967296
theorem box4 {B g : Nat} {a b c d : Value} {w0 w : World} (h : w0.heap[g]? = some (.cells #[a, b, c, d] 25 (0, 0))) (hb : Below B w0 w) (hg : g < B) : w.cell? ⟨g, 0, none⟩ = some a ∧ w.cell? ⟨g, 1, none⟩ = some b ∧ w.cell? ⟨g, 2, none⟩ = some c ∧ w.cell? ⟨g, 3, none⟩ = some d := by
  have h2 : w.heap[g]? = some (.cells #[a, b, c, d] 25 (0, 0)) := (hb.block g hg).trans h
  have := fun j => cell_of_row w g j _ 25 (0, 0) h2
  refine ⟨?_, ?_, ?_, ?_⟩ <;> (rw [this]; rfl)
theorem size_any (n : Nd) (ka va ia : Option Addr) (kc vc ic : Nat) (w : World) (h : NA n ka va ia w) (hb : NB n) :
    Calls Tryz.prog 43 #[nda n ka va ia kc vc ic] w fun e w' => e = .returned (I n.siz) ∧ Below w.heap.size w w' := by
  obtain ⟨lf, ks, vs, is⟩ := n
  have hA := (Below.refl w.heap.size w).alloc (Nat.le_refl _) (.cells #[.bool lf, .slice ka ks.length kc, .slice va vs.length vc, .slice ia is.length ic] 25)
  have hn := h.below hA
  obtain ⟨b1, b2, b3, b4, b5⟩ := hb
  have h1 := hn.ks
  have h2 := hn.vs
  simp only at h1 h2 b1 b2 b3 b4 b5
  have H1 := hide (fun q => bytesIn_any ka _ kc ks ((w.alloc (.cells #[.bool lf, .slice ka ks.length kc, .slice va vs.length vc, .slice ia is.length ic] 25)).drewN q) h1 b1 b4)
  have H2 := hide (fun q => bytesIn_any va _ vc vs ((w.alloc (.cells #[.bool lf, .slice ka ks.length kc, .slice va vs.length vc, .slice ia is.length ic] 25)).drewN q) h2 b2 b5)
  have HA := hide hA
  clear h hA hn h1 h2
  unfold nda Nd.siz
  simp only
  generalize tot ks = tk at *
  generalize tot vs = tv at *
  generalize hkl : ks.length = kl at *
  generalize hvl : vs.length = vl at *
  generalize hil : is.length = il at *
  clear hkl hvl hil ks vs is
  cases lf
  · go_enter Tryz.func43, Tryz.ntmps43
    go_wp2
    go_quiet ((go_at_call 74; exact Calls.quiet_of_same (unhide H1 _)))
    go_wp2
    go_ret
    exact ⟨ret_int (by simp), bel_q (unhide HA) _⟩
  · go_enter Tryz.func43, Tryz.ntmps43
    go_wp2
    go_quiet ((go_at_call 74; with_reducible first | exact Calls.quiet_of_same (unhide H1 _) | exact Calls.quiet_of_same (unhide H2 _)))
    go_wp2
    go_ret
    exact ⟨ret_int (by omega), bel_q (unhide HA) _⟩
end Go.Proofs.YtllialbdofklgaaGreatDoor
