import Derived.Test.YtfaahjbkdlkmjaaDoorJei
/- Jot: enter, more, closed. -/
namespace Go.Proofs.YtfaahjbkdlkmjaaDoor
open Go Go.RowKit Go.Lib
set_option linter.unusedVariables false
set_option linter.unusedSimpArgs false
def ent (d : Nat) (r : Bs) : Except Er Bs := if d = 16 then .error (41, r.length) else .ok (sk r.tail)
set_option maxHeartbeats 4000000 in
theorem enter_any (d : Nat) (hd : d ≤ 16) (b : Nat) (s r : Bs) (w : World) (h : RAt b s r w) (hr : r ≠ []) :
    Calls Tryd.prog 53 #[.pointer (some ⟨b, 0, none⟩), .int .i64 d] w (PO b s w (ent d r) (okR b s)) := by
  by_cases h16 : d = 16
  · subst h16
    have HX := hide (show ent 16 r = .error (41, r.length) by unfold ent; rw [if_pos rfl])
    have HF := hide (fail_any 41 b s r w h)
    clear h
    go_enter Tryd.func53, Tryd.ntmps53
    go_wp2_with fail
    refine (unhide HF).mono ?_
    rintro e w5 ⟨rfl, rfl⟩
    go_wp2_with fail
    exact ⟨rfl, PO.bad (unhide HX) (Onl.refl _ _) rfl⟩
  · have HX := hide (show ent d r = .ok (sk r.tail) by unfold ent; rw [if_neg h16])
    have hne : ((d : Int) == 16) = false := by rw [beq_eq_false_iff_ne]; omega
    obtain ⟨p, hrow, hp, hdp⟩ := h.row
    have hle := h.le
    have d1 : w.cell? ⟨b, 1, none⟩ = some (.int .i64 p) := by rw [Lib.cell_of_heap hrow]; rfl
    have z1 : w.frozen? ⟨b, 1, none⟩ = false := Lib.frozen_of_heap hrow 1
    have hl0 := List.length_pos_iff.2 hr
    have hlen : r.length = s.length - p := by rw [← hdp]; simp
    have H1 := hide (show RAt b s r.tail (w.setCell ⟨b, 1, none⟩ (.int .i64 ((p : Int) + 1))) from ⟨⟨p + 1, by
      rw [heap_setCell_same w b 1 _ 50 (.int .i64 ((p : Int) + 1)) hrow]; rfl, by omega, by
      rw [show s.drop (p + 1) = (s.drop p).tail by rw [List.tail_drop], hdp]⟩, hle⟩)
    have HB := hide (blanks_any b s r.tail _ (unhide H1))
    clear h hrow hdp H1
    go_enter Tryd.func53, Tryd.ntmps53
    go_wp2_with fail
    refine (unhide HB).mono ?_
    rintro e w2 ⟨rfl, h2, o2⟩
    go_wp2_with fail
    go_end0
    exact PO.ok (unhide HX) ((Onl.setCell b 1 _ w).trans o2) ⟨rfl, h2⟩
def mr (c : UInt8) (r : Bs) : Except Er (Bool × Bs) := if (sk r).headD 0 = c then .ok (false, (sk r).tail) else match want 44 (sk r) with
  | .error e => .error e
  | .ok t => .ok (true, sk t)
abbrev okB (b : Nat) (s : Bs) (x : Bool × Bs) (e : Ending) (w' : World) : Prop := e = .returned (.bool x.1) ∧ RAt b s x.2 w'
set_option maxHeartbeats 4000000 in
theorem more_any (c : UInt8) (hc : c ≠ 0) (b : Nat) (s r : Bs) (w : World) (h : RAt b s r w) :
    Calls Tryd.prog 54 #[.pointer (some ⟨b, 0, none⟩), .int .u8 (c.toNat : Int)] w (PO b s w (mr c r) (okB b s)) := by
  have HB := hide (blanks_any b s r w h)
  obtain ⟨r1, hr1⟩ : ∃ r1, sk r = r1 := ⟨_, rfl⟩
  have HX0 := hide (show mr c r = if r1.headD 0 = c then .ok (false, r1.tail) else match want 44 r1 with
    | .error e => .error e
    | .ok t => .ok (true, sk t) by unfold mr; rw [hr1])
  rw [hr1] at HB
  clear h hr1
  have HTk := hide (fun w1 => take_any c hc b s r1 w1)
  obtain ⟨cn, hcn⟩ : ∃ cn, c.toNat = cn := ⟨_, rfl⟩
  rw [hcn] at HTk ⊢
  by_cases hh : r1.headD 0 = c
  · rw [decide_eq_true hh, show tk c r1 = r1.tail by unfold tk; rw [if_pos hh]] at HTk
    have HX := hide (show mr c r = .ok (false, r1.tail) by rw [unhide HX0, if_pos hh])
    clear hh hc hcn HX0
    go_enter Tryd.func54, Tryd.ntmps54
    go_wp2_with fail
    refine (unhide HB).mono ?_
    rintro e w1 ⟨rfl, h1, o1⟩
    have HT := hide (unhide HTk w1 h1)
    have O1 := hide o1
    clear h1 o1 HTk HB
    go_wp2_with fail
    refine (unhide HT).mono ?_
    rintro e w2 ⟨rfl, h2, o2⟩
    go_wp2_with fail
    go_ret
    exact PO.ok (unhide HX) ((unhide O1).trans o2) ⟨rfl, h2⟩
  · rw [decide_eq_false hh, tk_no hh] at HTk
    have HX := hide (show mr c r = match want 44 r1 with
      | .error e => .error e
      | .ok t => .ok (true, sk t) by rw [unhide HX0, if_neg hh])
    clear hh hc hcn HX0
    go_enter Tryd.func54, Tryd.ntmps54
    go_wp2_with fail
    refine (unhide HB).mono ?_
    rintro e w1 ⟨rfl, h1, o1⟩
    have HT := hide (unhide HTk w1 h1)
    have O1 := hide o1
    clear h1 o1 HTk HB
    go_wp2_with fail
    refine (unhide HT).mono ?_
    rintro e w2 ⟨rfl, h2, o2⟩
    have HW := hide (want_any 44 (by decide) b s r1 w2 h2)
    have O2 := hide ((unhide O1).trans o2)
    clear h2 o2 HT O1
    go_wp2_with fail
    refine (unhide HW).mono ?_
    rintro e w3 ⟨o3, he⟩
    cases hx : want 44 r1 with
    | error er =>
      rw [hx] at he
      subst he
      have HX2 := hide (show mr c r = .error er by rw [unhide HX, hx])
      have O3 := hide ((unhide O2).trans o3)
      clear hx HX HW o3 O2
      go_wp2_with fail
      exact ⟨rfl, PO.bad (unhide HX2) (unhide O3) rfl⟩
    | ok t =>
      rw [hx] at he
      obtain ⟨rfl, h3⟩ := he
      have HX2 := hide (show mr c r = .ok (true, sk t) by rw [unhide HX, hx])
      have O3 := hide ((unhide O2).trans o3)
      have HB2 := hide (blanks_any b s t w3 h3)
      clear hx HX HW o3 O2 h3
      go_wp2_with fail
      refine (unhide HB2).mono ?_
      rintro e w4 ⟨rfl, h4, o4⟩
      go_wp2_with fail
      go_ret
      exact PO.ok (unhide HX2) ((unhide O3).trans o4) ⟨rfl, h4⟩
set_option maxHeartbeats 4000000 in
theorem closed_0 (w : World) : Calls Tryd.prog 31 #[.iface 64 (.agg #[])] w fun e w' => e = .returned (vJ 0 0 [] none 0 0 none 0 0) ∧ Below w.heap.size w w' := by
  have t0 := ta_64_66
  have t1 := ta_64_68
  have t2 := ta_64_70
  have t3 := ta_64_59
  have t4 := ta_64_61
  unfold vJ
  go_enter Tryd.func31, Tryd.ntmps31
  go_wp2_with fail
  refine bodyPost_ret (v := .agg #[I 0, I 0, S [], .slice none 0 0, .slice none 0 0]) (by simp [results, Tryd.results31, go_sem]) rfl ⟨rfl, ?_⟩
  first | exact (Below.refl _ _).alloc (Nat.le_refl _) _ | exact ((Below.refl _ _).alloc (Nat.le_refl _) _).alloc (by simp) _
set_option maxHeartbeats 4000000 in
theorem closed_1 (w : World) : Calls Tryd.prog 31 #[.iface 66 (.bool false)] w fun e w' => e = .returned (vJ 1 0 [] none 0 0 none 0 0) ∧ Below w.heap.size w w' := by
  have t0 := ta_66_66
  have t1 := ta_66_68
  have t2 := ta_66_70
  have t3 := ta_66_59
  have t4 := ta_66_61
  unfold vJ
  go_enter Tryd.func31, Tryd.ntmps31
  go_wp2_with fail
  refine bodyPost_ret (v := .agg #[I 1, I 0, S [], .slice none 0 0, .slice none 0 0]) (by simp [results, Tryd.results31, go_sem]) rfl ⟨rfl, ?_⟩
  first | exact (Below.refl _ _).alloc (Nat.le_refl _) _ | exact ((Below.refl _ _).alloc (Nat.le_refl _) _).alloc (by simp) _
set_option maxHeartbeats 4000000 in
theorem closed_2 (w : World) : Calls Tryd.prog 31 #[.iface 66 (.bool true)] w fun e w' => e = .returned (vJ 2 0 [] none 0 0 none 0 0) ∧ Below w.heap.size w w' := by
  have t0 := ta_66_66
  have t1 := ta_66_68
  have t2 := ta_66_70
  have t3 := ta_66_59
  have t4 := ta_66_61
  unfold vJ
  go_enter Tryd.func31, Tryd.ntmps31
  go_wp2_with fail
  refine bodyPost_ret (v := .agg #[I 2, I 0, S [], .slice none 0 0, .slice none 0 0]) (by simp [results, Tryd.results31, go_sem]) rfl ⟨rfl, ?_⟩
  first | exact (Below.refl _ _).alloc (Nat.le_refl _) _ | exact ((Below.refl _ _).alloc (Nat.le_refl _) _).alloc (by simp) _
set_option maxHeartbeats 4000000 in
theorem closed_3 (n : Int) (w : World) : Calls Tryd.prog 31 #[.iface 68 (I n)] w fun e w' => e = .returned (vJ 3 n [] none 0 0 none 0 0) ∧ Below w.heap.size w w' := by
  have t0 := ta_68_66
  have t1 := ta_68_68
  have t2 := ta_68_70
  have t3 := ta_68_59
  have t4 := ta_68_61
  unfold vJ
  go_enter Tryd.func31, Tryd.ntmps31
  go_wp2_with fail
  refine bodyPost_ret (v := .agg #[I 3, I n, S [], .slice none 0 0, .slice none 0 0]) (by simp [results, Tryd.results31, go_sem]) rfl ⟨rfl, ?_⟩
  first | exact (Below.refl _ _).alloc (Nat.le_refl _) _ | exact ((Below.refl _ _).alloc (Nat.le_refl _) _).alloc (by simp) _
set_option maxHeartbeats 4000000 in
theorem closed_4 (t : Bs) (w : World) : Calls Tryd.prog 31 #[.iface 70 (S t)] w fun e w' => e = .returned (vJ 4 0 t none 0 0 none 0 0) ∧ Below w.heap.size w w' := by
  have t0 := ta_70_66
  have t1 := ta_70_68
  have t2 := ta_70_70
  have t3 := ta_70_59
  have t4 := ta_70_61
  unfold vJ
  go_enter Tryd.func31, Tryd.ntmps31
  go_wp2_with fail
  refine bodyPost_ret (v := .agg #[I 4, I 0, S t, .slice none 0 0, .slice none 0 0]) (by simp [results, Tryd.results31, go_sem]) rfl ⟨rfl, ?_⟩
  first | exact (Below.refl _ _).alloc (Nat.le_refl _) _ | exact ((Below.refl _ _).alloc (Nat.le_refl _) _).alloc (by simp) _
set_option maxHeartbeats 4000000 in
theorem closed_5 (xa : Option Addr) (xl xc : Nat) (w : World) : Calls Tryd.prog 31 #[.iface 59 (.slice xa xl xc)] w fun e w' => e = .returned (vJ 5 0 [] none 0 0 xa xl xc) ∧ Below w.heap.size w w' := by
  have t0 := ta_59_66
  have t1 := ta_59_68
  have t2 := ta_59_70
  have t3 := ta_59_59
  have t4 := ta_59_61
  unfold vJ
  go_enter Tryd.func31, Tryd.ntmps31
  go_wp2_with fail
  refine bodyPost_ret (v := .agg #[I 5, I 0, S [], .slice none 0 0, .slice xa xl xc]) (by simp [results, Tryd.results31, go_sem]) rfl ⟨rfl, ?_⟩
  first | exact (Below.refl _ _).alloc (Nat.le_refl _) _ | exact ((Below.refl _ _).alloc (Nat.le_refl _) _).alloc (by simp) _
set_option maxHeartbeats 4000000 in
theorem closed_6 (na : Option Addr) (nl nc : Nat) (xa : Option Addr) (xl xc : Nat) (w : World) : Calls Tryd.prog 31 #[.iface 61 (.agg #[.slice na nl nc, .slice xa xl xc])] w fun e w' => e = .returned (vJ 6 0 [] na nl nc xa xl xc) ∧ Below w.heap.size w w' := by
  have t0 := ta_61_66
  have t1 := ta_61_68
  have t2 := ta_61_70
  have t3 := ta_61_59
  have t4 := ta_61_61
  unfold vJ
  go_enter Tryd.func31, Tryd.ntmps31
  go_wp2_with fail
  refine bodyPost_ret (v := .agg #[I 6, I 0, S [], .slice na nl nc, .slice xa xl xc]) (by simp [results, Tryd.results31, go_sem]) rfl ⟨rfl, ?_⟩
  first | exact (Below.refl _ _).alloc (Nat.le_refl _) _ | exact ((Below.refl _ _).alloc (Nat.le_refl _) _).alloc (by simp) _
/-- What closed makes whole: the parts that its kind has not are zero. -/
def Clo (k n : Int) (t : Bs) (na : Option Addr) (nl nc : Nat) (xa : Option Addr) (xl xc : Nat) : Prop :=
  ((k = 0 ∨ k = 1 ∨ k = 2) ∧ n = 0 ∧ t = [] ∧ na = none ∧ nl = 0 ∧ nc = 0 ∧ xa = none ∧ xl = 0 ∧ xc = 0) ∨
  (k = 3 ∧ t = [] ∧ na = none ∧ nl = 0 ∧ nc = 0 ∧ xa = none ∧ xl = 0 ∧ xc = 0) ∨
  (k = 4 ∧ n = 0 ∧ na = none ∧ nl = 0 ∧ nc = 0 ∧ xa = none ∧ xl = 0 ∧ xc = 0) ∨
  (k = 5 ∧ n = 0 ∧ t = [] ∧ na = none ∧ nl = 0 ∧ nc = 0) ∨ (k = 6 ∧ n = 0 ∧ t = [])
theorem closed_any {k n : Int} {t : Bs} {na : Option Addr} {nl nc : Nat} {xa : Option Addr} {xl xc : Nat} (h : Clo k n t na nl nc xa xl xc) (w : World) :
    Calls Tryd.prog 31 #[opn k n t na nl nc xa xl xc] w fun e w' => e = .returned (vJ k n t na nl nc xa xl xc) ∧ Below w.heap.size w w' := by
  rcases h with ⟨rfl | rfl | rfl, rfl, rfl, rfl, rfl, rfl, rfl, rfl, rfl⟩ | ⟨rfl, rfl, rfl, rfl, rfl, rfl, rfl, rfl⟩ | ⟨rfl, rfl, rfl, rfl, rfl, rfl, rfl, rfl⟩ | ⟨rfl, rfl, rfl, rfl, rfl, rfl⟩ | ⟨rfl, rfl, rfl⟩
  · exact closed_0 w
  · exact closed_1 w
  · exact closed_2 w
  · exact closed_3 n w
  · exact closed_4 t w
  · exact closed_5 xa xl xc w
  · exact closed_6 na nl nc xa xl xc w
end Go.Proofs.YtfaahjbkdlkmjaaDoor
