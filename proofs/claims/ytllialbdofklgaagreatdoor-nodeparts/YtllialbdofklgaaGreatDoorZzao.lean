import Derived.Test.YtllialbdofklgaaGreatDoorZzan
import Derived.Test.YtllialbdofklgaaGreatDoorZzak
namespace Go.Proofs.YtllialbdofklgaaGreatDoor
open Go.RowKit
set_option maxHeartbeats 8000000
set_option maxRecDepth 8000
theorem copiedTexts_any (a : Option Addr) (n cap : Nat) (l : List Bs) (w : World) (hp : Sts w a n l) (hn : n ≤ 4294967296) (ht : tot l ≤ 4294967296) :
    Calls Tryz.prog 100 #[.slice a n cap] w fun e w' => ∃ V, e = .returned V ∧ w'.ownsRow 0 9 1 V l.length (l.map S) ∧ (∀ k, V.ownBlock = some k → w.heap.size ≤ k) ∧ Below w.heap.size w w' := by
  have hN := hp.1
  subst hN
  have HP := hide hp
  have HT := hide (fun k => Nat.le_trans (tot_at l k) ht)
  clear hp ht
  go_enter Tryz.func100, Tryz.ntmps100
  go_wp2
  go_loopw [3, 8] (fun v i wr => ∃ k : Nat, k ≤ l.length ∧ i = .int .i64 k ∧ wr.ownsRow 0 9 1 v k ((l.take k).map S) ∧ (∀ j, v.ownBlock = some j → w.heap.size ≤ j) ∧ Below w.heap.size w wr) (fun _ i _ => l.length - (Go.RowKit.intOf i).toNat)
  case atStart => exact ⟨0, by omega, rfl, owns_nil _ _ _, (fun j hj => nomatch hj), Below.refl _ _⟩
  case round =>
    obtain ⟨k, hk, rfl, hr, hv, hb⟩ := hrel
    by_cases hlt : k < l.length
    · obtain ⟨p, o, rfl, hpl, hc0⟩ := ((unhide HP).below hb).at hlt
      have hlt' : (k : Int) < (l.length : Int) := by omega
      have hxl := unhide HT k
      have HN : Hid ((l.take (k + 1)).map S = (l.take k).map S ++ [S (l.getD k [])]) := by
        show (l.take (k + 1)).map S = (l.take k).map S ++ [S (l.getD k [])]
        rw [List.take_succ_eq_append_getElem hlt, List.map_append, List.getD_eq_getElem?_getD, List.getElem?_eq_getElem hlt]
        rfl
      generalize l.getD k [] = x at *
      have H1 := hide (clone_any x wr (by omega))
      obtain ⟨p0, c0, rfl⟩ := owns_form hr
      have HR := hide hr
      have HV := hide hv
      have HB := hide hb
      generalize (l.take k).map S = xs at *
      clear hr hv hb
      go_wp2_with fail
      refine (unhide H1).mono ?_
      rintro e w2 ⟨rfl, b2⟩
      have HR2 := hide (owns_below (unhide HR) b2)
      have HB2 := hide ((unhide HB).trans (b2.mono (unhide HB).size))
      have HS2 := hide (Nat.le_trans (unhide HB).size b2.size)
      clear b2 HR HB hc0
      go_wp2_with (at_builtin; refine push_own 22 9 _ 1 16 Tryz.underlying22 info9 rfl (by decide) rfl (.tmp 12) (.tmp 15) rfl (.slice p0 k c0) k xs (by rfl) w2 (unhide HR2) [S x] rfl (by intro u hu; simp at hu; subst hu; rfl) (by rfl) (by omega) (by omega) ?_; intro p3 c3 w3 r3 o3 n3; have HR3 := hide r3; have HO3 := hide o3; have HN3 := hide n3; clear r3 o3 n3)
      go_round
      case measure => simp [Go.RowKit.intOf]; omega
      case rel =>
        refine ⟨k + 1, by omega, by simp, ?_, ?_, ?_⟩
        · rw [unhide HN]; exact unhide HR3
        · intro j hj
          rcases unhide HN3 j hj with q | q
          · exact unhide HV j q
          · have := unhide HS2; omega
        · exact (unhide HO3).below (unhide HB2) (unhide HS2) (fun j hj => unhide HV j hj)
    · have hlt' : ¬ (k : Int) < (l.length : Int) := by omega
      obtain rfl : k = l.length := by omega
      have HR := hide hr
      have HV := hide hv
      have HB := hide hb
      clear hr hv hb
      go_wp2
      go_ret
      refine ⟨_, rfl, ?_, unhide HV, unhide HB⟩
      have := unhide HR
      rwa [List.take_length] at this
theorem cloneI_nil (w : World) : Calls Tryz.prog 61 #[.slice none 0 0] w fun e w' => e = .returned (.slice none 0 0) ∧ w' = w := by
  have hnil : ∀ W : World, (binOp BinOp.eql 23 (Value.slice none 0 0) (Value.slice none 0 0)).run Tryz.prog W = .ok (.bool true) W := fun W => by
    first | rfl | simp [binOp, go_sem, Tryz.underlying23]
  go_enter Tryz.func61, Tryz.ntmps61
  go_wp2
  go_ret
  exact ⟨rfl, rfl⟩
end Go.Proofs.YtllialbdofklgaaGreatDoor
/- A region that draws its order, some of whose values come up only as it goes: what is chosen so far is carried. -/
namespace Go.Proofs.YtllialbdofklgaaGreatDoor
open Go.RowKit
variable {C : Type} {ops : Array Oper} {Q : Exit → Act → World → Prop}
def DoesX (ops : Array Oper) (Q : Exit → Act → World → Prop) (Wd : C → (Nat → Bool) → World → Prop) (val : C → Nat → Value) (i : Nat) (L : Nat → Bool) (c : C) (a : Act) (w : World) : Prop :=
  wpOp Tryz.prog ops Q i (fun a' w' => ∃ c', (∀ j, L j = true → val c' j = val c j) ∧ a' = a.put (dstOf ops i) (val c' i) ∧ Wd c' (upd L i) w') a w
theorem doesX_of {Wd : C → (Nat → Bool) → World → Prop} {val : C → Nat → Value} {i : Nat} {L : Nat → Bool} {c : C} {a : Act} {w : World} (h : DoesL ops Q (Wd c) (val c) i L a w) : DoesX ops Q Wd val i L c a w := by
  unfold DoesX
  refine wpOp_mono ?_ h
  rintro a' w' ⟨rfl, hw⟩
  exact ⟨c, fun _ _ => rfl, rfl, hw⟩
theorem doesX_call {Wd : C → (Nat → Bool) → World → Prop} {val : C → Nat → Value} {i : Nat} {L : Nat → Bool} {c : C} {o : Oper} {a : Act} {w : World} (ho : ops[i]? = some o) (hw : Region.wanted o (yielded ops a.tmps) = true) (f : FuncId) (args : Array Value)
    (hr : (execOp a.eval o).run Tryz.prog w = .ok (.enter f args) w) (hc : Calls Tryz.prog f args w fun e w' => ∃ c', (∀ j, L j = true → val c' j = val c j) ∧ e = .returned (val c' i) ∧ Wd c' (upd L i) w') : DoesX ops Q Wd val i L c a w := by
  unfold DoesX wpOp
  simp only [ho]
  rw [if_pos hw]
  left
  unfold Oper.wp
  rw [hr, Oper.upon_enter]
  refine hc.mono ?_
  rintro e w' ⟨c', h1, rfl, hW⟩
  refine ⟨c', h1, ?_, hW⟩
  simp [dstOf, ho]
theorem frm_congr {a0 : Act} {v v' : Nat → Value} {L : Nat → Bool} (h : ∀ j, L j = true → v' j = v j) : ∀ n, frm ops a0 v' L n = frm ops a0 v L n := by
  intro n
  induction n with
  | zero => rfl
  | succ n ih =>
    simp only [frm]
    split
    · rename_i hn
      rw [ih, h n hn]
    · exact ih
theorem region_detX {id : Nat} {a0 : Act} {w : World} (val : C → Nat → Value) (Wd : C → (Nat → Bool) → World → Prop)
    (hac : ∀ i o, ops[i]? = some o → ∀ e ∈ o.after, Region.binds .any e = true → e.on < i)
    (hdis : ∀ i j, j ≠ i → dstOf ops j ≠ dstOf ops i ∨ dstOf ops j = none)
    (h0 : ∃ c, Wd c (fun _ => false) w.drew)
    (hstep : ∀ i o, ops[i]? = some o → ∀ c L a w, L i = false → (∀ e ∈ o.after, Region.binds .any e = true → L e.on = true) → a = frm ops a0 (val c) L ops.size → Wd c L w → DoesX ops Q Wd val i L c a w)
    (hend : ∀ c L w, (∀ i, i < ops.size → L i = true) → Wd c L w → Q .normal (frm ops a0 (val c) (fun _ => true) ops.size) w) : (Code.region id ops true).wp Tryz.prog Q a0 w := by
  refine region_inv (by kernel_rfl) (fun L a w => ∃ c, a = frm ops a0 (val c) L ops.size ∧ Wd c L w) hac ?_ ?_ ?_
  · obtain ⟨c, h0⟩ := h0
    refine ⟨c, ?_, h0⟩
    have : ∀ n, frm ops a0 (val c) (fun _ => false) n = a0 := by
      intro n
      induction n with
      | zero => rfl
      | succ n ih => simpa [frm] using ih
    exact (this _).symm
  · intro L a w i o ho hL hdep ⟨c, ha, hw⟩
    refine wpOp_mono ?_ (hstep i o ho c L a w hL hdep ha hw)
    rintro a' w' ⟨c', h1, rfl, hw'⟩
    refine ⟨c', ?_, hw'⟩
    rw [frm_upd a0 (val c') L i hL (fun j hj => hdis i j hj), if_pos (Array.getElem?_eq_some_iff.1 ho).1, ha, frm_congr h1]
  · intro L a w hall ⟨c, ha, hw⟩
    have : ∀ n, n ≤ ops.size → frm ops a0 (val c) L n = frm ops a0 (val c) (fun _ => true) n := by
      intro n
      induction n with
      | zero => intro _; rfl
      | succ n ih => intro h; simp only [frm]; rw [hall n (by omega), ih (by omega)]; simp
    rw [ha, this _ (Nat.le_refl _)]
    exact hend c L w hall hw
end Go.Proofs.YtllialbdofklgaaGreatDoor
