import Derived.Test.YtpelmacblglhoaaRows
import Derived.Test.YtpelmacblglhoaaDsz
import Derived.SizedLaws
import Derived.WalkKit
import Derived.ProofKit
import Derived.OpenShut
import Derived.ShutString
import Derived.Deep.Slices
import Derived.Test.YtpelmacblglhoaaZzar
import Derived.Test.YtpelmacblglhoaaDsg
namespace Go.Proofs.Ytpelmacblglhoaa
open Go
theorem i64_of {n : Int} (h : (Lit.int .i64 n).wf = true) : -9223372036854775808 ≤ n ∧ n ≤ 9223372036854775807 := by
  simp [Lit.wf, IntKind.min, IntKind.max, IntKind.signed, IntKind.bits] at h
  omega
theorem own : ownKnob Try.prog.godebug = none := by kernel_rfl
theorem laidOut : laidOutB Try.prog = true := by kernel_rfl
end Go.Proofs.Ytpelmacblglhoaa
namespace Go.Proofs.Ytpelmacblglhoaa.diskLoads
open Go.ChangeShapes Go.WideShapes Go.ChangeAt Go.RowKit
open Go.ChangeMaps (open_string shut_string)
set_option linter.unusedVariables false
set_option maxRecDepth 100000 in
theorem lifted (os : Os) (started : os.Started) (H : Type) (enc : TypeId × Value → H) :
    ReturnsInHanded {} Try.checked os 4 .any (Rows.diskLoadsSpec.pre6 enc Try.prog Try.f4 Rows.diskLoadsRow.domain false) (Rows.diskLoadsSpec.post enc Try.prog Try.f4 false true false false) := by
  refine returnsInHanded_of_change_sized (C := Try.checked) own started (by kernel_rfl) Try.func4
    (ChangeSpec.witness6 (enc := enc) (C := Try.checked) false ⟨#[], #[.int .i64 0, .int .i64 0, .int .i64 0, .string ByteArray.empty], []⟩ 8 (by kernel_rfl) (by kernel_rfl) (by kernel_rfl) (by kernel_rfl)) ?_
  intro W base args ds gs before hval0 hW hcnd hsz0 _
  have hval : ∀ (j : Nat) t v, Try.f4.params[j]? = some t → args[j]? = some v → Value.okWide Try.prog W .any base t v := hval0
  clear hsz0
  have hW' := hW
  obtain ⟨p, q, hA0, hV, rfl, hfz, hnd⟩ := hW
  have hA : DataW.TrodAll enc Try.prog W 0 (fun _ => true) true Try.f4.params.toList args.toList ds p := hA0
  rw [Try.params4] at hA hval
  obtain ⟨v0, vs0, d0, ds0, p0, q0, hargs, rfl, rfl, h0, r0⟩ := trodAll_cons hA
  obtain ⟨v1, vs1, d1, ds1, p1, q1, ha1, rfl, rfl, h1, r1⟩ := trodAll_cons r0
  obtain ⟨v2, vs2, d2, ds2, p2, q2, ha2, rfl, rfl, h2, r2⟩ := trodAll_cons r1
  obtain ⟨v3, vs3, d3, ds3, p3, q3, ha3, rfl, rfl, h3, r3⟩ := trodAll_cons r2
  obtain ⟨rfl, rfl, rfl⟩ := trodAll_nil r3
  obtain rfl : args = #[v0, v1, v2, v3] := by cases args; simp_all
  obtain ⟨rfl, rfl⟩ := trodVars_none hV
  obtain ⟨z0, rfl, rfl, rfl, w0⟩ := open_int Try.underlying3 (hval 0 3 v0 rfl rfl) h0
  obtain ⟨z1, rfl, rfl, rfl, w1⟩ := open_int Try.underlying3 (hval 1 3 v1 rfl rfl) h1
  obtain ⟨z2, rfl, rfl, rfl, w2⟩ := open_int Try.underlying3 (hval 2 3 v2 rfl rfl) h2
  obtain ⟨s3, rfl, rfl, rfl, w3⟩ := open_string Try.underlying9 (hval 3 9 v3 rfl rfl) h3
  clear hA0 hval0
  have hw : Calls Try.prog 4 #[.int .i64 z0, .int .i64 z1, .int .i64 z2, .string s3] W fun e w' => e = .returned (.bool true) ∧ Below W.heap.size W w' := by
    have h := diskLoads_any z0 z1 z2 s3.data.toList W (i64_of w0) (i64_of w1) (i64_of w2)
    have e : S s3.data.toList = .string s3 := by simp [S]
    rw [e] at h
    exact h
  refine hw.mono fun e W' ⟨he, bel⟩ => ?_
  subst he
  exact ⟨_, rfl, _, _, _, [], _, [], hW', trodAll_mk1 (shut_bool Try.underlying4 _), (trodAll_cons_mk (shut_int Try.underlying3 w0) (trodAll_cons_mk (shut_int Try.underlying3 w1) (trodAll_cons_mk (shut_int Try.underlying3 w2) (trodAll_cons_mk (shut_string Try.underlying9 w3) trodAll_mk0)))), rfl, bel.frame _, fun h => by cases h⟩
theorem over : Rows.diskLoadsRow.holds Try.pinned (OpenSpec.ofChange Rows.diskLoadsSpec) :=
  OpenClaim.holds_of_wide 4 Try.f4 rfl rfl rfl rfl rfl rfl rfl ⟨rfl, rfl, rfl, rfl, rfl⟩ rfl rfl rfl rfl rfl (by kernel_rfl) Try.func4 (by kernel_rfl)
    (of_decide_eq_true (by kernel_rfl)) (by unfold Func.isWrapper; first | (rw [if_pos (by decide +kernel)]; kernel_rfl) | (rw [if_neg (by decide +kernel)]; exact ⟨rfl, rfl⟩))
    (fun os started H enc _ => lifted os started H enc)
end Go.Proofs.Ytpelmacblglhoaa.diskLoads
namespace Go.Proofs.Ytpelmacblglhoaa
theorem diskLoads_holds : Rows.DiskLoadsSaid := diskLoads.over
end Go.Proofs.Ytpelmacblglhoaa
namespace Go.Proofs.Ytpelmacblglhoaa
open Go.RowKit
set_option maxHeartbeats 4000000
set_option maxRecDepth 8000
/-- The document's disk: what it holds. -/
structure Rd where
  l : List Bs
  is : List Bool
  p : List Bs
  left : Int
  dead : Bool
  done : Int
def rcs (r : Rd) (vl vi vp : Value) : Array Value := #[vl, vi, vp, I r.left, .bool r.dead, I r.done]
/-- The document's disk in memory. -/
structure RAt (X : Nat) (r : Rd) (vl vi vp : Value) (w : World) : Prop where
  blk : w.heap[X]? = some (.cells (rcs r vl vi vp) 47 (0, 0))
  l : w.ownsRow 0 9 1 vl r.l.length (r.l.map S)
  i : w.ownsRow 0 4 1 vi r.l.length (r.is.map Value.bool)
  p : w.ownsRow 0 9 1 vp r.l.length (r.p.map S)
  ap : ∀ k, vl.ownBlock = some k → vp.ownBlock ≠ some k
section
variable {X : Nat} {r r' : Rd} {vl vi vp vl' vi' vp' : Value} {w w' : World}
theorem RAt.lt (h : RAt X r vl vi vp w) : X < w.heap.size := lt_of_row h.blk
theorem RAt.c (h : RAt X r vl vi vp w) : w.cell? ⟨X, 0, none⟩ = some vl ∧ w.cell? ⟨X, 1, none⟩ = some vi ∧ w.cell? ⟨X, 2, none⟩ = some vp ∧ w.cell? ⟨X, 3, none⟩ = some (I r.left) ∧ w.cell? ⟨X, 4, none⟩ = some (.bool r.dead) ∧ w.cell? ⟨X, 5, none⟩ = some (I r.done) := by
  have := fun j => cell_of_row w X j _ 47 (0, 0) h.blk
  refine ⟨?_, ?_, ?_, ?_, ?_, ?_⟩ <;> (rw [this]; rfl)
/-- The blocks that are its own. -/
def OfR (X : Nat) (vl vi vp : Value) (k : Nat) : Prop := k = X ∨ vl.ownBlock = some k ∨ vi.ownBlock = some k ∨ vp.ownBlock = some k
theorem RAt.only {P : Nat → Prop} (h : RAt X r vl vi vp w) (ho : Only P w w') (hp : ∀ k, OfR X vl vi vp k → ¬ P k) : RAt X r vl vi vp w' :=
  ⟨(ho.block X h.lt (hp X (.inl rfl))).trans h.blk, owns_only h.l ho (fun k hk => hp k (.inr (.inl hk))), owns_only h.i ho (fun k hk => hp k (.inr (.inr (.inl hk)))), owns_only h.p ho (fun k hk => hp k (.inr (.inr (.inr hk)))), h.ap⟩
theorem RAt.below (h : RAt X r vl vi vp w) (hb : Below w.heap.size w w') : RAt X r vl vi vp w' :=
  ⟨(hb.block X h.lt).trans h.blk, owns_below h.l hb, owns_below h.i hb, owns_below h.p hb, h.ap⟩
theorem RAt.old (h : RAt X r vl vi vp w) : ∀ k, OfR X vl vi vp k → k < w.heap.size := by
  rintro k (rfl | hk | hk | hk)
  · exact h.lt
  · exact owns_blk h.l k hk
  · exact owns_blk h.i k hk
  · exact owns_blk h.p k hk
theorem row47 {e n m : Nat} {v : Value} {xs : List Value} (h : RAt X r vl vi vp w) (hv : w.ownsRow 0 e n v m xs) (he : e ≠ 47) : ∀ k, v.ownBlock = some k → ¬ k = X := by
  intro k hk q
  obtain ⟨cs, q2⟩ := owns_lt hv k hk
  rw [q, h.blk] at q2
  cases q2
  exact he rfl
/-- A number, or a yes or no, of its own block. -/
theorem RAt.set (h : RAt X r vl vi vp w) (j : Nat) (u : Value) (hc : (rcs r vl vi vp).setIfInBounds j u = rcs r' vl vi vp) (e1 : r'.l = r.l) (e2 : r'.is = r.is) (e3 : r'.p = r.p) : RAt X r' vl vi vp (w.setCell ⟨X, j, none⟩ u) := by
  have o := Only.setCell w ⟨X, j, none⟩ u
  refine ⟨?_, ?_, ?_, ?_, h.ap⟩
  · rw [heap_setCell_same w X j _ 47 u h.blk, hc]
  · rw [e1]; exact owns_only h.l o (row47 h h.l (by decide))
  · rw [e1, e2]; exact owns_only h.i o (row47 h h.i (by decide))
  · rw [e1, e3]; exact owns_only h.p o (row47 h h.p (by decide))
theorem rSize_any (h : RAt X r vl vi vp w) : Calls Try.prog 33 #[ptr X] w fun e w' => e = .returned (I r.l.length) ∧ w' = w := by
  obtain ⟨c0, c1, c2, c3, c4, c5⟩ := h.c
  have hl := h.lt
  obtain ⟨p, cap, rfl⟩ := owns_form h.l
  clear h
  generalize r.l.length = x at *
  go_enter Try.func33, Try.ntmps33
  go_wp2
  go_ret
  exact ⟨rfl, rfl⟩
def armr (r : Rd) (n : Int) : Int := if n < 0 then 1 else if r.dead then 2 else 0
def Rd.arm (r : Rd) (n : Int) : Rd := if n < 0 then r else if r.dead then r else { r with left := n }
theorem rArm_any (h : RAt X r vl vi vp w) (n : Int) : Calls Try.prog 35 #[ptr X, I n] w fun e w' => e = .returned (I (armr r n)) ∧ RAt X (r.arm n) vl vi vp w' ∧ Only (fun k => k = X) w w' := by
  obtain ⟨c0, c1, c2, c3, c4, c5⟩ := h.c
  have hl := h.lt
  have hz := frz h.blk 3
  have H := hide h
  have HS := hide (h.set (r' := { r with left := n }) 3 (I n) rfl rfl rfl rfl)
  clear h
  unfold armr Rd.arm
  by_cases h1 : n < 0
  · rw [if_pos h1, if_pos h1]
    go_enter Try.func35, Try.ntmps35
    go_wp2
    go_ret
    exact ⟨rfl, unhide H, Only.refl _ _⟩
  · rw [if_neg h1, if_neg h1]
    cases hd : r.dead with
    | true =>
      rw [hd] at c4
      go_enter Try.func35, Try.ntmps35
      go_wp2
      go_ret
      exact ⟨rfl, unhide H, Only.refl _ _⟩
    | false =>
      rw [hd] at c4 HS
      go_enter Try.func35, Try.ntmps35
      go_wp2
      go_ret
      exact ⟨rfl, unhide HS, Only.setCell w ⟨X, _, none⟩ _⟩
end
/-- sameWrites: of the same lists. -/
theorem sameWrites_any (a b : Option Addr) (n cap1 cap2 : Nat) (l : List Wr) (w : World) (ha : Wls w a n l) (hb : Wls w b n l) (hn : n ≤ 1000000000000) : Calls Try.prog 13 #[.slice a n cap1, .slice b n cap2] w fun e w' => e = .returned (.bool true) ∧ Below w.heap.size w w' := by
  have hN := ha.1
  subst hN
  have HA := hide ha
  have HB := hide hb
  clear ha hb
  go_enter Try.func13, Try.ntmps13
  go_wp2
  go_loopw [5] (fun i wr => ∃ k : Nat, k ≤ l.length ∧ i = .int .i64 k ∧ Below w.heap.size w wr) (fun i _ => l.length - (Go.RowKit.intOf i).toNat)
  case atStart => exact ⟨0, by omega, rfl, Below.refl _ _⟩
  case round =>
    obtain ⟨k, hk, rfl, hw⟩ := hrel
    have HW := hide hw
    by_cases hlt : k < l.length
    · obtain ⟨p, o, rfl, hpl, hc0, hc1⟩ := ((unhide HA).below hw).at hlt
      obtain ⟨p2, o2, rfl, hpl2, hd0, hd1⟩ := ((unhide HB).below hw).at hlt
      have hlt' : (k : Int) < (l.length : Int) := by omega
      generalize l.getD k (0, []) = x at *
      obtain ⟨xb, xs⟩ := x
      simp only at hc0 hc1 hd0 hd1
      clear hw
      go_wp2
      go_region
      go_wp2
      go_round
      case measure => simp [Go.RowKit.intOf]; omega
      case rel => exact ⟨k + 1, by omega, by simp, below_drew (unhide HW)⟩
    · have hlt' : ¬ (k : Int) < (l.length : Int) := by omega
      clear hw
      go_wp2
      go_ret
      exact ⟨rfl, unhide HW⟩
end Go.Proofs.Ytpelmacblglhoaa
