import Derived.Test.YtbmcaejbfjpmiaaDoorTxa
import Derived.Deep.QuietTactic
import Derived.BigQuiet
import Derived.Laws.StructEq
namespace Go.Proofs.YtbmcaejbfjpmiaaDoor
open Go.RowKit Go.Lib
theorem held44 : Tryd.prog.stoodInHeld 44 = false := by kernel_rfl
theorem guard44 : Tryd.prog.eqGuardType Tryd.prog.depth 44 = false := by kernel_rfl
theorem fields44 : Tryd.prog.underlying 44 = some (.struct (Tryd.prog.fieldsOf 44)) := by kernel_rfl
theorem eq44 (a b c d : List UInt8) (w : World) : (Op.equalIn 10000 44 (.agg #[S a, S b]) (.agg #[S c, S d])).run Tryd.prog w = .ok (a == c && b == d) w := by
  rw [run_equalIn_struct w 9999 44 _ _ fields44 held44]
  have hf : (Tryd.prog.fieldsOf 44).toList = [{ name := "Name", type := 9, offset := 0, embedded := false, tag := "", pkgPath := "", byteOffset := 0 }, { name := "Value", type := 9, offset := 1, embedded := false, tag := "", pkgPath := "", byteOffset := 16 }] := by kernel_rfl
  rw [hf]
  have h9 := Tryd.underlying9
  simp [Op.eqFields, part, run_equalIn_string, Tryd.isAgg9, Result.andThen]
  by_cases h1 : a = c
  · by_cases h2 : b = d
    · simp [h1, h2]
    · simp [h1, h2]
  · simp [h1]
theorem neq44 (a b c d : List UInt8) (w : World) : (binOp .neq 44 (.agg #[S a, S b]) (.agg #[S c, S d])).run Tryd.prog w = .ok (.bool (!(a == c && b == d))) w := by
  rw [run_neq_struct, eq44]
  rfl
theorem eql44 (a b c d : List UInt8) (w : World) : (binOp .eql 44 (.agg #[S a, S b]) (.agg #[S c, S d])).run Tryd.prog w = .ok (.bool (a == c && b == d)) w := by
  rw [run_eql_struct, eq44]
  rfl
theorem same_take {fs gs : List Fl} (k : Nat) (h1 : k < fs.length) (h2 : k < gs.length) : fs.take (k + 1) = gs.take (k + 1) ↔ fs.take k = gs.take k ∧ fs.getD k f0 = gs.getD k f0 := by
  rw [List.take_succ_eq_append_getElem h1, List.take_succ_eq_append_getElem h2]
  have e1 : fs.getD k f0 = fs[k] := by simp [h1]
  have e2 : gs.getD k f0 = gs[k] := by simp [h2]
  rw [e1, e2]
  constructor
  · intro h
    have := List.append_inj h (by simp; omega)
    exact ⟨this.1, by simpa using this.2⟩
  · rintro ⟨h, h'⟩
    rw [h, h']
set_option maxHeartbeats 4000000 in
set_option maxRecDepth 8000 in
theorem same_any (a b : Option Addr) (n m c1 c2 : Nat) (fs gs : List Fl) (w : World) (hp : Fls w a n fs) (hq : Fls w b m gs) (hn : n ≤ 9223372036854775806) (hm : m ≤ 9223372036854775806) :
    Calls Tryd.prog 16 #[.slice a n c1, .slice b m c2] w fun e w' => e = .returned (.bool (decide (fs = gs))) ∧ Below w.heap.size w w' := by
  have HN := hide hp.1
  have HM := hide hq.1
  by_cases hl : n = m
  · subst hl
    have HP := hide hp
    have HQ := hide hq
    obtain ⟨T, hT⟩ : ∃ T, T = decide (fs = gs) := ⟨_, rfl⟩
    rw [← hT]
    have HT := hide hT
    clear hp hq hT hm
    go_enter Tryd.func16, Tryd.ntmps16
    go_wp2
    go_loopw [5] (fun i wr => ∃ k : Nat, k ≤ n ∧ i = .int .i64 k ∧ fs.take k = gs.take k ∧ Below w.heap.size w wr) (fun i _ => n - (Go.RowKit.intOf i).toNat)
    case atStart => exact ⟨0, by omega, rfl, rfl, Below.refl _ _⟩
    case round =>
      obtain ⟨k, hk, rfl, hsame, hbr⟩ := hrel
      by_cases hlt : k < n
      · obtain ⟨p, o, rfl, _, hc0, hc1⟩ := ((unhide HP).below hbr).at hlt
        obtain ⟨p', o', rfl, _, hd0, hd1⟩ := ((unhide HQ).below hbr).at hlt
        have hst := hide (same_take (fs := fs) (gs := gs) k (by have := unhide HN; omega) (by have := unhide HM; omega))
        have hne : Hid (fs.getD k f0 ≠ gs.getD k f0 → fs ≠ gs) := hide (fun h e => h (by rw [e]))
        generalize fs.getD k f0 = F at *
        generalize gs.getD k f0 = G at *
        obtain ⟨fn, fv⟩ := F
        obtain ⟨gn, gv⟩ := G
        simp only at hc0 hc1 hd0 hd1
        have hlt' : (k : Int) < (n : Int) := by omega
        have hsm := hide hsame
        clear hsame
        have hneq : ∀ W, (binOp .neq 44 (.agg #[S fn, S fv]) (.agg #[S gn, S gv])).run Tryd.prog W = .ok (.bool (!(fn == gn && fv == gv))) W := neq44 fn fv gn gv
        have hg44 := guard44
        go_wp2_with fail
        go_quiet (fail)
        have hs := hbr.trans (show Below w.heap.size wr (wr.drewN nq) from ⟨rfl, rfl, rfl, Nat.le_refl _, fun _ _ => rfl⟩)
        generalize wr.drewN nq = wv at *
        by_cases he : fn = gn ∧ fv = gv
        · obtain ⟨rfl, rfl⟩ := he
          have hsm2 := hide ((unhide hst).2 ⟨unhide hsm, rfl⟩)
          clear hst hne hneq
          rw [show (!(fn == fn) || !(fv == fv)) = false by simp]
          go_wp2
          refine ⟨⟨k + 1, by omega, by go_num, unhide hsm2, hs⟩, ?_⟩
          simp [Go.RowKit.intOf]; omega
        · have hT2 : T = false := by
            rw [unhide HT]
            exact decide_eq_false (unhide hne (fun e => he (by simpa using e)))
          subst hT2
          by_cases h1 : fn = gn
          · subst h1
            have hv : (fv == gv) = false := by simpa using (fun h2 => he ⟨rfl, h2⟩)
            clear hst hne hneq he
            rw [show (!(fn == fn) || !(fv == gv)) = true by simp [hv]]
            go_wp2
            go_ret
            exact ⟨rfl, hs⟩
          · have hv : (fn == gn) = false := by simpa using h1
            clear hst hne hneq he h1
            rw [show (!(fn == gn) || !(fv == gv)) = true by simp [hv]]
            go_wp2
            go_ret
            exact ⟨rfl, hs⟩
      · have hd : decide (k < n) = false := by simp; omega
        have hT2 : T = true := by
          rw [unhide HT]
          refine decide_eq_true ?_
          rw [List.take_of_length_le (by have := unhide HN; omega), List.take_of_length_le (by have := unhide HM; omega)] at hsame
          exact hsame
        subst hT2
        clear hsame
        go_wp2
        go_ret
        exact ⟨rfl, hbr⟩
  · have hT : decide (fs = gs) = false := decide_eq_false (fun e => hl (by have := unhide HN; have := unhide HM; rw [e] at *; omega))
    rw [hT]
    have hl' : ¬ (n : Int) = (m : Int) := by omega
    clear hp hq hl
    go_enter Tryd.func16, Tryd.ntmps16
    go_wp2
    go_ret
    exact ⟨rfl, Below.refl _ _⟩
end Go.Proofs.YtbmcaejbfjpmiaaDoor
