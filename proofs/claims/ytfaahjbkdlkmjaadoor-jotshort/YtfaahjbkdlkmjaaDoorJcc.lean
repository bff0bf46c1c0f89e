import Derived.Test.YtfaahjbkdlkmjaaDoorJcb
import Derived.WalkLawsBesides
/- Jot: the value that a part stands for. -/
namespace Go.Proofs.YtfaahjbkdlkmjaaDoor
open Go Go.RowKit Go.Lib
set_option linter.unusedVariables false
set_option linter.unusedSimpArgs false
/-- The value that a part stands for. -/
def opn (k n : Int) (t : Bs) (na : Option Addr) (nl nc : Nat) (xa : Option Addr) (xl xc : Nat) : Value :=
  if k = 0 then .iface 64 (.agg #[]) else if k = 1 then .iface 66 (.bool false) else if k = 2 then .iface 66 (.bool true) else if k = 3 then .iface 68 (I n)
  else if k = 4 then .iface 70 (S t) else if k = 5 then .iface 59 (.slice xa xl xc) else .iface 61 (.agg #[.slice na nl nc, .slice xa xl xc])
/-- What open comes to. -/
def OpO (k n : Int) (t : Bs) (na : Option Addr) (ns : List Bs) (nc : Nat) (xa : Option Addr) (xl xc : Nat) (w : World) (e : Ending) (w' : World) : Prop :=
  Below w.heap.size w w' ∧ e = if own k n t ns xl = true then .returned (opn k n t na ns.length nc xa xl xc) else pan 43 0
theorem emp_nil (ns : List Bs) : ns.isEmpty = decide (ns.length = 0) := by cases ns <;> simp
theorem own_0 (k n : Int) (t : Bs) (ns : List Bs) (m : Nat) (h : k = 0 ∨ k = 1 ∨ k = 2) : own k n t ns m = emp n t ns.length m := by
  unfold own emp
  rw [if_pos h, emp_nil]
theorem own_3 (n : Int) (t : Bs) (ns : List Bs) (m : Nat) : own 3 n t ns m = (emp 0 t ns.length m && decide (-9007199254740991 ≤ n ∧ n ≤ 9007199254740991)) := by
  unfold own emp
  rw [if_neg (by decide), if_pos rfl, emp_nil]
  simp [Bool.and_assoc]
theorem own_4 (n : Int) (t : Bs) (ns : List Bs) (m : Nat) : own 4 n t ns m = (emp n [] ns.length m && validD t) := by
  unfold own emp
  rw [if_neg (by decide), if_neg (by decide), if_pos rfl, emp_nil]
  simp [Bool.and_assoc]
theorem own_5 (n : Int) (t : Bs) (ns : List Bs) (m : Nat) : own 5 n t ns m = emp n t ns.length 0 := by
  unfold own emp
  rw [if_neg (by decide), if_neg (by decide), if_neg (by decide), if_pos rfl, emp_nil]
  simp [Bool.and_assoc]
theorem own_6 (n : Int) (t : Bs) (ns : List Bs) (m : Nat) : own 6 n t ns m = (emp n t 0 0 && nmsOK ns m) := by
  unfold own emp nmsOK
  rw [if_neg (by decide), if_neg (by decide), if_neg (by decide), if_neg (by decide), if_pos rfl]
  simp [Bool.and_assoc]
theorem own_no (k n : Int) (t : Bs) (ns : List Bs) (m : Nat) (h : ¬ (k = 0 ∨ k = 1 ∨ k = 2) ∧ k ≠ 3 ∧ k ≠ 4 ∧ k ≠ 5 ∧ k ≠ 6) : own k n t ns m = false := by
  unfold own
  rw [if_neg h.1, if_neg h.2.1, if_neg h.2.2.1, if_neg h.2.2.2.1, if_neg h.2.2.2.2]
set_option maxHeartbeats 8000000 in
set_option maxRecDepth 20000 in
theorem open_0 (n : Int) (t : Bs) (na : Option Addr) (ns : List Bs) (nc : Nat) (xa : Option Addr) (xl xc : Nat) (w : World) (hE : Env w) (hn : Nms w na ns) (hx : xl ≤ 9223372036854775807) (ht : t.length ≤ 9223372036854775807) :
    Calls Tryd.prog 21 #[vJ 0 n t na ns.length nc xa xl xc] w (OpO 0 n t na ns nc xa xl xc w) := by
  have hl := hn.1
  have HE := hide hE
  have HN := hide hn
  have ho : own 0 n t ns xl = emp (n : Int) (t : Bs) (ns.length) xl := own_0 _ _ _ _ _ (by decide)
  clear hE hn
  unfold vJ
  go_enter Tryd.func21, Tryd.ntmps21
  go_wp2_with fail
  refine (empty_any 0 n t na ns.length nc xa xl xc _ (by omega) (by omega)).mono ?_
  rintro e w1 ⟨rfl, h1⟩
  have hb1 : Below w.heap.size w w1 := (((Below.refl _ _).alloc (Nat.le_refl _) _).alloc (by simp) _).trans (h1.mono (by simp <;> omega))
  clear h1
  cases he : emp (n : Int) (t : Bs) (ns.length) xl with
  | false =>
    rw [he] at ho
    go_wp2_with fail
    exact ⟨rfl, hb1, by rw [ho]; rfl⟩
  | true =>
    rw [he] at ho
    have hE := unhide HE
    have hn := unhide HN
    have HM := hide (may113 w1)
    have HB1 := hide hb1
    clear hE hn hb1 HE HN he
    go_wp2_with fail
    refine (unhide HM).mono ?_
    rintro e w2 ⟨rfl, h2⟩
    have HB2 := hide ((unhide HB1).trans (h2.mono (unhide HB1).size))
    clear h2 HM
    go_wp2_with fail
    go_ret
    exact ⟨unhide HB2, by rw [ho]; rfl⟩
set_option maxHeartbeats 8000000 in
set_option maxRecDepth 20000 in
theorem open_1 (n : Int) (t : Bs) (na : Option Addr) (ns : List Bs) (nc : Nat) (xa : Option Addr) (xl xc : Nat) (w : World) (hE : Env w) (hn : Nms w na ns) (hx : xl ≤ 9223372036854775807) (ht : t.length ≤ 9223372036854775807) :
    Calls Tryd.prog 21 #[vJ 1 n t na ns.length nc xa xl xc] w (OpO 1 n t na ns nc xa xl xc w) := by
  have hl := hn.1
  have HE := hide hE
  have HN := hide hn
  have ho : own 1 n t ns xl = emp (n : Int) (t : Bs) (ns.length) xl := own_0 _ _ _ _ _ (by decide)
  clear hE hn
  unfold vJ
  go_enter Tryd.func21, Tryd.ntmps21
  go_wp2_with fail
  refine (empty_any 1 n t na ns.length nc xa xl xc _ (by omega) (by omega)).mono ?_
  rintro e w1 ⟨rfl, h1⟩
  have hb1 : Below w.heap.size w w1 := (((Below.refl _ _).alloc (Nat.le_refl _) _).alloc (by simp) _).trans (h1.mono (by simp <;> omega))
  clear h1
  cases he : emp (n : Int) (t : Bs) (ns.length) xl with
  | false =>
    rw [he] at ho
    go_wp2_with fail
    exact ⟨rfl, hb1, by rw [ho]; rfl⟩
  | true =>
    rw [he] at ho
    have hE := unhide HE
    have hn := unhide HN
    have HM := hide (may114 false w1)
    have HB1 := hide hb1
    clear hE hn hb1 HE HN he
    go_wp2_with fail
    refine (unhide HM).mono ?_
    rintro e w2 ⟨rfl, h2⟩
    have HB2 := hide ((unhide HB1).trans (h2.mono (unhide HB1).size))
    clear h2 HM
    go_wp2_with fail
    go_ret
    exact ⟨unhide HB2, by rw [ho]; rfl⟩
set_option maxHeartbeats 8000000 in
set_option maxRecDepth 20000 in
theorem open_2 (n : Int) (t : Bs) (na : Option Addr) (ns : List Bs) (nc : Nat) (xa : Option Addr) (xl xc : Nat) (w : World) (hE : Env w) (hn : Nms w na ns) (hx : xl ≤ 9223372036854775807) (ht : t.length ≤ 9223372036854775807) :
    Calls Tryd.prog 21 #[vJ 2 n t na ns.length nc xa xl xc] w (OpO 2 n t na ns nc xa xl xc w) := by
  have hl := hn.1
  have HE := hide hE
  have HN := hide hn
  have ho : own 2 n t ns xl = emp (n : Int) (t : Bs) (ns.length) xl := own_0 _ _ _ _ _ (by decide)
  clear hE hn
  unfold vJ
  go_enter Tryd.func21, Tryd.ntmps21
  go_wp2_with fail
  refine (empty_any 2 n t na ns.length nc xa xl xc _ (by omega) (by omega)).mono ?_
  rintro e w1 ⟨rfl, h1⟩
  have hb1 : Below w.heap.size w w1 := (((Below.refl _ _).alloc (Nat.le_refl _) _).alloc (by simp) _).trans (h1.mono (by simp <;> omega))
  clear h1
  cases he : emp (n : Int) (t : Bs) (ns.length) xl with
  | false =>
    rw [he] at ho
    go_wp2_with fail
    exact ⟨rfl, hb1, by rw [ho]; rfl⟩
  | true =>
    rw [he] at ho
    have hE := unhide HE
    have hn := unhide HN
    have HM := hide (may114 true w1)
    have HB1 := hide hb1
    clear hE hn hb1 HE HN he
    go_wp2_with fail
    refine (unhide HM).mono ?_
    rintro e w2 ⟨rfl, h2⟩
    have HB2 := hide ((unhide HB1).trans (h2.mono (unhide HB1).size))
    clear h2 HM
    go_wp2_with fail
    go_ret
    exact ⟨unhide HB2, by rw [ho]; rfl⟩
set_option maxHeartbeats 8000000 in
set_option maxRecDepth 20000 in
theorem open_3 (n : Int) (t : Bs) (na : Option Addr) (ns : List Bs) (nc : Nat) (xa : Option Addr) (xl xc : Nat) (w : World) (hE : Env w) (hn : Nms w na ns) (hx : xl ≤ 9223372036854775807) (ht : t.length ≤ 9223372036854775807) :
    Calls Tryd.prog 21 #[vJ 3 n t na ns.length nc xa xl xc] w (OpO 3 n t na ns nc xa xl xc w) := by
  have hl := hn.1
  have HE := hide hE
  have HN := hide hn
  have ho : own 3 n t ns xl = (emp (0 : Int) (t : Bs) (ns.length) xl && decide (-9007199254740991 ≤ n ∧ n ≤ 9007199254740991)) := own_3 _ _ _ _
  clear hE hn
  unfold vJ
  go_enter Tryd.func21, Tryd.ntmps21
  go_wp2_with fail
  refine (empty_any 3 0 t na ns.length nc xa xl xc _ (by omega) (by omega)).mono ?_
  rintro e w1 ⟨rfl, h1⟩
  have hb1 : Below w.heap.size w w1 := (((Below.refl _ _).alloc (Nat.le_refl _) _).alloc (by simp) _).trans (h1.mono (by simp <;> omega))
  clear h1
  cases he : emp (0 : Int) (t : Bs) (ns.length) xl with
  | false =>
    rw [he] at ho
    go_wp2_with fail
    exact ⟨rfl, hb1, by rw [ho]; rfl⟩
  | true =>
    rw [he] at ho
    have hE := unhide HE
    have hn := unhide HN
    have HM := hide (may115 n w1)
    have HB1 := hide hb1
    clear hE hn hb1 HE HN he
    go_wp2_with fail
    refine (unhide HM).mono ?_
    rintro e w2 ⟨rfl, h2⟩
    have HB2 := hide ((unhide HB1).trans (h2.mono (unhide HB1).size))
    clear h2 HM
    cases hc : decide (-9007199254740991 ≤ n ∧ n ≤ 9007199254740991) with
    | false =>
      rw [hc] at ho
      go_wp2_with fail
      exact ⟨rfl, unhide HB2, by rw [ho]; rfl⟩
    | true =>
      rw [hc] at ho
      go_wp2_with fail
      go_ret
      exact ⟨unhide HB2, by rw [ho]; rfl⟩
set_option maxHeartbeats 8000000 in
set_option maxRecDepth 20000 in
theorem open_4 (n : Int) (t : Bs) (na : Option Addr) (ns : List Bs) (nc : Nat) (xa : Option Addr) (xl xc : Nat) (w : World) (hE : Env w) (hn : Nms w na ns) (hx : xl ≤ 9223372036854775807) (ht : t.length ≤ 9223372036854775807) :
    Calls Tryd.prog 21 #[vJ 4 n t na ns.length nc xa xl xc] w (OpO 4 n t na ns nc xa xl xc w) := by
  have hl := hn.1
  have HE := hide hE
  have HN := hide hn
  have ho : own 4 n t ns xl = (emp (n : Int) ([] : Bs) (ns.length) xl && validD t) := own_4 _ _ _ _
  clear hE hn
  unfold vJ
  go_enter Tryd.func21, Tryd.ntmps21
  go_wp2_with fail
  refine (empty_any 4 n [] na ns.length nc xa xl xc _ (by omega) (by omega)).mono ?_
  rintro e w1 ⟨rfl, h1⟩
  have hb1 : Below w.heap.size w w1 := (((Below.refl _ _).alloc (Nat.le_refl _) _).alloc (by simp) _).trans (h1.mono (by simp <;> omega))
  clear h1
  cases he : emp (n : Int) ([] : Bs) (ns.length) xl with
  | false =>
    rw [he] at ho
    go_wp2_with fail
    exact ⟨rfl, hb1, by rw [ho]; rfl⟩
  | true =>
    rw [he] at ho
    have hE := unhide HE
    have hn := unhide HN
    have HM := hide (may116 t w1 (hE.below hb1) ht)
    have HB1 := hide hb1
    clear hE hn hb1 HE HN he
    go_wp2_with fail
    refine (unhide HM).mono ?_
    rintro e w2 ⟨rfl, h2⟩
    have HB2 := hide ((unhide HB1).trans (h2.mono (unhide HB1).size))
    clear h2 HM
    cases hc : validD t with
    | false =>
      rw [hc] at ho
      go_wp2_with fail
      exact ⟨rfl, unhide HB2, by rw [ho]; rfl⟩
    | true =>
      rw [hc] at ho
      go_wp2_with fail
      go_ret
      exact ⟨unhide HB2, by rw [ho]; rfl⟩
set_option maxHeartbeats 8000000 in
set_option maxRecDepth 20000 in
theorem open_5 (n : Int) (t : Bs) (na : Option Addr) (ns : List Bs) (nc : Nat) (xa : Option Addr) (xl xc : Nat) (w : World) (hE : Env w) (hn : Nms w na ns) (hx : xl ≤ 9223372036854775807) (ht : t.length ≤ 9223372036854775807) :
    Calls Tryd.prog 21 #[vJ 5 n t na ns.length nc xa xl xc] w (OpO 5 n t na ns nc xa xl xc w) := by
  have hl := hn.1
  have HE := hide hE
  have HN := hide hn
  have ho : own 5 n t ns xl = emp (n : Int) (t : Bs) (ns.length) 0 := own_5 _ _ _ _
  clear hE hn
  unfold vJ
  go_enter Tryd.func21, Tryd.ntmps21
  go_wp2_with fail
  refine (empty_any 5 n t na ns.length nc none 0 0 _ (by omega) (by omega)).mono ?_
  rintro e w1 ⟨rfl, h1⟩
  have hb1 : Below w.heap.size w w1 := (((Below.refl _ _).alloc (Nat.le_refl _) _).alloc (by simp) _).trans (h1.mono (by simp <;> omega))
  clear h1
  cases he : emp (n : Int) (t : Bs) (ns.length) 0 with
  | false =>
    rw [he] at ho
    go_wp2_with fail
    exact ⟨rfl, hb1, by rw [ho]; rfl⟩
  | true =>
    rw [he] at ho
    have hE := unhide HE
    have hn := unhide HN
    have HM := hide (may109 xa xl xc w1)
    have HB1 := hide hb1
    clear hE hn hb1 HE HN he
    go_wp2_with fail
    refine (unhide HM).mono ?_
    rintro e w2 ⟨rfl, h2⟩
    have HB2 := hide ((unhide HB1).trans (h2.mono (unhide HB1).size))
    clear h2 HM
    go_wp2_with fail
    go_ret
    exact ⟨unhide HB2, by rw [ho]; rfl⟩
set_option maxHeartbeats 8000000 in
set_option maxRecDepth 20000 in
theorem open_6 (n : Int) (t : Bs) (na : Option Addr) (ns : List Bs) (nc : Nat) (xa : Option Addr) (xl xc : Nat) (w : World) (hE : Env w) (hn : Nms w na ns) (hx : xl ≤ 9223372036854775807) (ht : t.length ≤ 9223372036854775807) :
    Calls Tryd.prog 21 #[vJ 6 n t na ns.length nc xa xl xc] w (OpO 6 n t na ns nc xa xl xc w) := by
  have hl := hn.1
  have HE := hide hE
  have HN := hide hn
  have ho : own 6 n t ns xl = (emp (n : Int) (t : Bs) (0) 0 && nmsOK ns xl) := own_6 _ _ _ _
  clear hE hn
  unfold vJ
  go_enter Tryd.func21, Tryd.ntmps21
  go_wp2_with fail
  refine (empty_any 6 n t none 0 0 none 0 0 _ (by omega) (by omega)).mono ?_
  rintro e w1 ⟨rfl, h1⟩
  have hb1 : Below w.heap.size w w1 := (((Below.refl _ _).alloc (Nat.le_refl _) _).alloc (by simp) _).trans (h1.mono (by simp <;> omega))
  clear h1
  cases he : emp (n : Int) (t : Bs) (0) 0 with
  | false =>
    rw [he] at ho
    go_wp2_with fail
    exact ⟨rfl, hb1, by rw [ho]; rfl⟩
  | true =>
    rw [he] at ho
    have hE := unhide HE
    have hn := unhide HN
    have HM := hide (may110 na ns nc xa xl xc w1 (hE.below hb1) (hn.keep hb1) hx)
    have HB1 := hide hb1
    clear hE hn hb1 HE HN he
    go_wp2_with fail
    refine (unhide HM).mono ?_
    rintro e w2 ⟨rfl, h2⟩
    have HB2 := hide ((unhide HB1).trans (h2.mono (unhide HB1).size))
    clear h2 HM
    cases hc : nmsOK ns xl with
    | false =>
      rw [hc] at ho
      go_wp2_with fail
      exact ⟨rfl, unhide HB2, by rw [ho]; rfl⟩
    | true =>
      rw [hc] at ho
      go_wp2_with fail
      go_ret
      exact ⟨unhide HB2, by rw [ho]; rfl⟩
set_option maxHeartbeats 8000000 in
set_option maxRecDepth 20000 in
theorem open_any (k n : Int) (t : Bs) (na : Option Addr) (ns : List Bs) (nc : Nat) (xa : Option Addr) (xl xc : Nat) (w : World) (hE : Env w) (hn : Nms w na ns) (hx : xl ≤ 9223372036854775807) (ht : t.length ≤ 9223372036854775807) :
    Calls Tryd.prog 21 #[vJ k n t na ns.length nc xa xl xc] w (OpO k n t na ns nc xa xl xc w) := by
  by_cases k0 : k = 0
  · subst k0
    exact open_0 n t na ns nc xa xl xc w hE hn hx ht
  by_cases k1 : k = 1
  · subst k1
    exact open_1 n t na ns nc xa xl xc w hE hn hx ht
  by_cases k2 : k = 2
  · subst k2
    exact open_2 n t na ns nc xa xl xc w hE hn hx ht
  by_cases k3 : k = 3
  · subst k3
    exact open_3 n t na ns nc xa xl xc w hE hn hx ht
  by_cases k4 : k = 4
  · subst k4
    exact open_4 n t na ns nc xa xl xc w hE hn hx ht
  by_cases k5 : k = 5
  · subst k5
    exact open_5 n t na ns nc xa xl xc w hE hn hx ht
  by_cases k6 : k = 6
  · subst k6
    exact open_6 n t na ns nc xa xl xc w hE hn hx ht
  have ho := own_no k n t ns xl ⟨by rintro (q | q | q); exact k0 q; exact k1 q; exact k2 q, k3, k4, k5, k6⟩
  have hb1 : Below w.heap.size w ((w.alloc (.cells #[I k, I n, S t, .slice na ns.length nc, .slice xa xl xc] 25)).alloc (.cells #[I k, I n, S t, .slice na ns.length nc, .slice xa xl xc] 25)) := ((Below.refl _ _).alloc (Nat.le_refl _) _).alloc (by simp) _
  have HB := hide hb1
  have z0 : (k == 0) = false := by rw [beq_eq_false_iff_ne]; exact k0
  have z1 : (k == 1) = false := by rw [beq_eq_false_iff_ne]; exact k1
  have z2 : (k == 2) = false := by rw [beq_eq_false_iff_ne]; exact k2
  have z3 : (k == 3) = false := by rw [beq_eq_false_iff_ne]; exact k3
  have z4 : (k == 4) = false := by rw [beq_eq_false_iff_ne]; exact k4
  have z5 : (k == 5) = false := by rw [beq_eq_false_iff_ne]; exact k5
  have z6 : (k == 6) = false := by rw [beq_eq_false_iff_ne]; exact k6
  clear hE hn hb1
  unfold vJ
  go_enter Tryd.func21, Tryd.ntmps21
  go_wp2_with fail
  exact ⟨rfl, unhide HB, by rw [ho]; rfl⟩
end Go.Proofs.YtfaahjbkdlkmjaaDoor
