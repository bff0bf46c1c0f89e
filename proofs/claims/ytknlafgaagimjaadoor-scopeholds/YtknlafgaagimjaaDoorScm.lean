import Derived.Test.YtknlafgaagimjaaDoorScl
import Derived.Deep.QuietTactic
import Derived.BigQuiet
namespace Go.Proofs.YtknlafgaagimjaaDoor
open Go.RowKit Go.Lib
theorem same_take {fs gs : List Bs} (k : Nat) (h1 : k < fs.length) (h2 : k < gs.length) : fs.take (k + 1) = gs.take (k + 1) ↔ fs.take k = gs.take k ∧ fs.getD k [] = gs.getD k [] := by
  rw [List.take_succ_eq_append_getElem h1, List.take_succ_eq_append_getElem h2]
  have e1 : fs.getD k [] = fs[k] := by simp [h1]
  have e2 : gs.getD k [] = gs[k] := by simp [h2]
  rw [e1, e2]
  constructor
  · intro h
    have := List.append_inj h (by simp; omega)
    exact ⟨this.1, by simpa using this.2⟩
  · rintro ⟨h, h'⟩
    rw [h, h']
theorem run_neq (x y : Bs) (W : World) : (binOp .neq 9 (S x) (S y)).run Tryd.prog W = .ok (.bool (decide (x ≠ y))) W := by
  have e : (!((ByteArray.mk x.toArray).toList == (ByteArray.mk y.toArray).toList)) = decide (x ≠ y) := by
    have e1 : ∀ z : Bs, (ByteArray.mk z.toArray).toList = z := fun z => by simp [ByteArray.toList_eq]
    rw [e1, e1]
    by_cases h : x = y <;> simp [h]
  rw [← e]
  simp [binOp, Op.stringOp]
set_option maxHeartbeats 4000000 in
set_option maxRecDepth 8000 in
theorem same_any (a b : Option Addr) (n m c1 c2 : Nat) (fs gs : List Bs) (w : World) (hp : Sts w a n fs) (hq : Sts w b m gs) (hn : n ≤ 9223372036854775806) (hm : m ≤ 9223372036854775806) :
    Calls Tryd.prog 12 #[.slice a n c1, .slice b m c2] w fun e w' => e = .returned (.bool (decide (fs = gs))) ∧ Below w.heap.size w w' := by
  have HN := hide hp.1
  have HM := hide hq.1
  by_cases hl : n = m
  · subst hl
    have HP := hide hp
    have HQ := hide hq
    obtain ⟨T, hT⟩ : ∃ T, T = decide (fs = gs) := ⟨_, rfl⟩
    rw [← hT]
    have HT := hide hT
    clear hp hq hT hm
    go_enter Tryd.func12, Tryd.ntmps12
    go_wp2
    go_loopw [5] (fun i wr => ∃ k : Nat, k ≤ n ∧ i = .int .i64 k ∧ fs.take k = gs.take k ∧ Below w.heap.size w wr) (fun i _ => n - (Go.RowKit.intOf i).toNat)
    case atStart => exact ⟨0, by omega, rfl, rfl, Below.refl _ _⟩
    case round =>
      obtain ⟨k, hk, rfl, hsame, hbr⟩ := hrel
      by_cases hlt : k < n
      · obtain ⟨p, o, rfl, _, hc0⟩ := ((unhide HP).below hbr).at hlt
        obtain ⟨p', o', rfl, _, hd0⟩ := ((unhide HQ).below hbr).at hlt
        have hst := hide (same_take (fs := fs) (gs := gs) k (by have := unhide HN; omega) (by have := unhide HM; omega))
        have hne : Hid (fs.getD k [] ≠ gs.getD k [] → fs ≠ gs) := hide (fun h e => h (by rw [e]))
        generalize fs.getD k [] = x at *
        generalize gs.getD k [] = y at *
        have hlt' : (k : Int) < (n : Int) := by omega
        have hsm := hide hsame
        clear hsame
        go_wp2_with fail
        go_quiet (fail)
        have hs := hbr.trans (show Below w.heap.size wr (wr.drewN nq) from ⟨rfl, rfl, rfl, Nat.le_refl _, fun _ _ => rfl⟩)
        generalize wr.drewN nq = wv at *
        by_cases he : x = y
        · subst he
          have hsm2 := hide ((unhide hst).2 ⟨unhide hsm, rfl⟩)
          clear hst hne
          rw [show (!x == x) = false by simp]
          go_wp2
          refine ⟨⟨k + 1, by omega, by go_num, unhide hsm2, hs⟩, ?_⟩
          simp [Go.RowKit.intOf]; omega
        · have hT2 : T = false := by
            rw [unhide HT]
            exact decide_eq_false (unhide hne he)
          subst hT2
          rw [show (!x == y) = true by simp [he]]
          clear hst hne he
          go_wp2
          go_ret
          exact ⟨rfl, hs⟩
      · have hd : decide (k < n) = false := by simp; omega
        have hT2 : T = true := by
          rw [unhide HT]
          refine decide_eq_true ?_
          rw [List.take_of_length_le (by have := unhide HN; omega), List.take_of_length_le (by have := unhide HM; omega)] at hsame
          exact hsame
        subst hT2
        clear hsame
        go_wp2
        go_ret
        exact ⟨rfl, hbr⟩
  · have hT : decide (fs = gs) = false := decide_eq_false (fun e => hl (by have := unhide HN; have := unhide HM; rw [e] at *; omega))
    rw [hT]
    have hl' : ¬ (n : Int) = (m : Int) := by omega
    clear hp hq hl
    go_enter Tryd.func12, Tryd.ntmps12
    go_wp2
    go_ret
    exact ⟨rfl, Below.refl _ _⟩
end Go.Proofs.YtknlafgaagimjaaDoor
