import Derived.Test.YthlacailhfhjnaaGreatDoorProg
import Derived.Test.YthlacailhfhjnaaGreatDoorZpwa
import Derived.WalkKit
import Derived.Lib.BufSteps
namespace Go.Proofs.YthlacailhfhjnaaGreatDoor
open Go.RowKit Go.Lib
theorem hide {p : Prop} (h : p) : Hid p := h
theorem unhide {p : Prop} (h : Hid p) : p := h
theorem ret_int {k : IntKind} {a b : Int} (h : a = b) : Ending.returned (.int k a) = .returned (.int k b) := by rw [h]
theorem ret_bool {a b : Bool} (h : a = b) : Ending.returned (.bool a) = .returned (.bool b) := by rw [h]
def B (c : UInt8) : Value := .int .u8 (c.toNat : Int)
theorem info5 : (Tryz.prog.info? 5).map (fun i => (i.zero, i.size, i.bytes)) = some (some (.int .u8 0), 1, 1) := by kernel_rfl
/-- Bytes in memory of one's own, that may be made longer. -/
def Own (base : Nat) (v : Value) (X : List UInt8) (W0 w : World) : Prop := OwnBuf base 5 v X.length (X.map B) W0 w
theorem wpList_conv {P : Program} {ops : Array Oper} {rest : List Oper} {o : Oper} {a : Act} {w : World} {Q : Exit → Act → World → Prop} (hgd : o.guard = none) (src dst : TypeId) (x : Operand) (ho : o.op = .convert src dst x)
    (v v' : Value) (hx : a.eval x = v) (hrun : (convert src dst v).run P w = .ok v' w)
    (h : wpList P ops Q rest (a.put o.dst v') w) : wpList P ops Q (o :: rest) a w :=
  wpList_plain hgd fun _ hK => by
    unfold Oper.wp execOp
    simp only [ho, hx, Sem.run_bind, hrun, Result.andThen_ok]
    exact hK _ _ h
theorem fold_push (l : List UInt8) (r : ByteArray) : (l.map fun c => (c.toNat : Int)).foldl (fun r n => r.push (UInt8.ofNat n.toNat)) r = ⟨r.data ++ l.toArray⟩ := by
  induction l generalizing r with
  | nil => simp
  | cons c l ih =>
    simp only [List.map_cons, List.foldl_cons, ih]
    simp [ByteArray.push]
/-- What lies in memory as bytes is the text of them. -/
theorem run_text (w : World) (g o len cap : Nat) (l : List UInt8) (hl : l.length = len) (h : ∀ j, j < len → w.cell? ⟨g, o + j, none⟩ = some (.int .u8 ((l.getD j 0).toNat : Int))) :
    (convert 102 9 (.slice (some ⟨g, o, none⟩) len cap)).run Tryz.prog w = .ok (.string ⟨l.toArray⟩) w := by
  rw [run_convert_bytes_string w 102 9 5 _ _ _ Tryz.underlying102 Tryz.underlying5 Tryz.underlying9]
  have hload : (loadCells ⟨g, o, none⟩ len).run Tryz.prog w = .ok ((l.map fun c => (c.toNat : Int)).map (Value.int .u8)).toArray w := by
    have := run_loadCells_list (P := Tryz.prog) w ⟨g, o, none⟩ ((l.map fun c => (c.toNat : Int)).map (Value.int .u8)) (fun j v hv => by
      have hadd : (⟨g, o, none⟩ : Addr).add j = ⟨g, o + j, none⟩ := by unfold Addr.add; split <;> simp_all
      rw [hadd]
      have hj : j < len := by
        have := (List.getElem?_eq_some_iff.1 hv).1
        simpa [hl] using this
      rw [h j hj, ← hv]
      simp [List.getElem?_map, List.getElem?_eq_getElem (by omega : j < l.length)])
    simpa [hl] using this
  rw [run_bytesToString w _ _ _ _ hload, fold_push]
  simp
theorem run_text_nil (w : World) : (convert 102 9 (.slice none 0 0)).run Tryz.prog w = .ok (.string ⟨(([] : List UInt8)).toArray⟩) w := by kernel_rfl
theorem Own.text {base : Nat} {v : Value} {X : List UInt8} {W0 w : World} (h : Own base v X W0 w) : (convert 102 9 v).run Tryz.prog w = .ok (.string ⟨X.toArray⟩) w := by
  have hc := fun {g : Nat} (hg : v.ownBlock = some g) => h.1.cells hg
  rcases h.1.2 with ⟨e, q⟩ | ⟨g, cap, cur, fz, e1, e2⟩
  · subst e
    have : X = [] := List.eq_nil_of_length_eq_zero q
    subst this
    exact run_text_nil w
  · subst e1
    refine run_text w g 0 X.length cap X rfl ?_
    intro j hj
    rw [Nat.zero_add]
    have := hc (g := g) rfl j (B (X.getD j 0)) (by simp [hj])
    have hadd : (⟨g, 0, none⟩ : Addr).add j = ⟨g, j, none⟩ := by unfold Addr.add; split <;> simp_all
    rw [hadd] at this
    exact this
theorem take_snoc (l : List UInt8) (k : Nat) (h : k < l.length) : l.take (k + 1) = l.take k ++ [l[k]] := List.take_succ_eq_append_getElem h
end Go.Proofs.YthlacailhfhjnaaGreatDoor
namespace Go.Proofs.YthlacailhfhjnaaGreatDoor
open Go.RowKit Go.Lib
abbrev S (l : List UInt8) : Value := .string ⟨l.toArray⟩
abbrev Fn1 (k : Nat) : Value := .func (.func k) #[] #[]
set_option maxHeartbeats 1000000 in
theorem isUpper_any (c : UInt8) (w : World) : Calls Tryz.prog 87 #[.int .u8 (c.toNat : Int)] w fun e w' => e = .returned (.bool (up c)) ∧ w' = w := by
  unfold up
  generalize c.toNat = n
  by_cases h1 : 65 ≤ n
  · by_cases h2 : n ≤ 90
    · have i1 : (65 : Int) ≤ (n : Int) := by omega
      have i2 : (n : Int) ≤ 90 := by omega
      go_enter Tryz.func87, Tryz.ntmps87
      go_wp2
      go_ret
      exact ⟨ret_bool (by simp [h1, h2]), rfl⟩
    · have i1 : (65 : Int) ≤ (n : Int) := by omega
      have i2 : ¬ (n : Int) ≤ 90 := by omega
      go_enter Tryz.func87, Tryz.ntmps87
      go_wp2
      go_ret
      exact ⟨ret_bool (by simp), rfl⟩
  · have i1 : ¬ (65 : Int) ≤ (n : Int) := by omega
    go_enter Tryz.func87, Tryz.ntmps87
    go_wp2
    go_ret
    exact ⟨ret_bool (by simp), rfl⟩
set_option maxHeartbeats 1000000 in
theorem isShown_any (c : UInt8) (w : World) : Calls Tryz.prog 96 #[.int .u8 (c.toNat : Int)] w fun e w' => e = .returned (.bool (shn c)) ∧ w' = w := by
  unfold shn
  generalize c.toNat = n
  by_cases h1 : 32 ≤ n
  · by_cases h2 : n ≤ 126
    · have i1 : (32 : Int) ≤ (n : Int) := by omega
      have i2 : (n : Int) ≤ 126 := by omega
      go_enter Tryz.func96, Tryz.ntmps96
      go_wp2
      go_ret
      exact ⟨ret_bool (by simp [h1, h2]), rfl⟩
    · have i1 : (32 : Int) ≤ (n : Int) := by omega
      have i2 : ¬ (n : Int) ≤ 126 := by omega
      go_enter Tryz.func96, Tryz.ntmps96
      go_wp2
      go_ret
      exact ⟨ret_bool (by simp), rfl⟩
  · have i1 : ¬ (32 : Int) ≤ (n : Int) := by omega
    go_enter Tryz.func96, Tryz.ntmps96
    go_wp2
    go_ret
    exact ⟨ret_bool (by simp), rfl⟩
set_option maxHeartbeats 1000000 in
theorem isDigit_any (c : UInt8) (w : World) : Calls Tryz.prog 109 #[.int .u8 (c.toNat : Int)] w fun e w' => e = .returned (.bool (dgt c)) ∧ w' = w := by
  unfold dgt
  generalize c.toNat = n
  by_cases h1 : 48 ≤ n
  · by_cases h2 : n ≤ 57
    · have i1 : (48 : Int) ≤ (n : Int) := by omega
      have i2 : (n : Int) ≤ 57 := by omega
      go_enter Tryz.func109, Tryz.ntmps109
      go_wp2
      go_ret
      exact ⟨ret_bool (by simp [h1, h2]), rfl⟩
    · have i1 : (48 : Int) ≤ (n : Int) := by omega
      have i2 : ¬ (n : Int) ≤ 57 := by omega
      go_enter Tryz.func109, Tryz.ntmps109
      go_wp2
      go_ret
      exact ⟨ret_bool (by simp), rfl⟩
  · have i1 : ¬ (48 : Int) ≤ (n : Int) := by omega
    go_enter Tryz.func109, Tryz.ntmps109
    go_wp2
    go_ret
    exact ⟨ret_bool (by simp), rfl⟩
theorem toNat_ne {c d : UInt8} (h : c ≠ d) : ¬ ((c.toNat : Nat) : Int) = (d.toNat : Int) := fun q => h (UInt8.toNat_inj.1 (by omega))
set_option maxHeartbeats 1000000 in
theorem isPathByte_any (c : UInt8) (w : World) : Calls Tryz.prog 89 #[.int .u8 (c.toNat : Int)] w fun e w' => e = .returned (.bool (pby c)) ∧ w' = w := by
  have H := hide (isShown_any c w)
  unfold pby
  by_cases h1 : shn c = true
  · rw [h1] at H ⊢
    by_cases h2 : c = 32
    · subst h2
      have i2 : (((32 : UInt8).toNat : Nat) : Int) = 32 := rfl
      go_enter Tryz.func89, Tryz.ntmps89
      go_wp2_with (go_at_call 96; refine (unhide H).mono ?_; rintro e w' ⟨rfl, rfl⟩)
      go_ret
      exact ⟨ret_bool (by simp), rfl⟩
    · have i2 : ¬ ((c.toNat : Nat) : Int) = 32 := toNat_ne h2
      go_enter Tryz.func89, Tryz.ntmps89
      go_wp2_with (go_at_call 96; refine (unhide H).mono ?_; rintro e w' ⟨rfl, rfl⟩)
      go_ret
      refine ⟨ret_bool ?_, rfl⟩
      have e1 : (c == 32) = false := by simpa using h2
      rw [e1]
      simpa using i2
  · have h1' : shn c = false := by simpa using h1
    rw [h1'] at H ⊢
    go_enter Tryz.func89, Tryz.ntmps89
    go_wp2_with (go_at_call 96; refine (unhide H).mono ?_; rintro e w' ⟨rfl, rfl⟩)
    go_ret
    exact ⟨rfl, rfl⟩
set_option maxHeartbeats 1000000 in
theorem lower_any (c : UInt8) (w : World) : Calls Tryz.prog 73 #[.int .u8 (c.toNat : Int)] w fun e w' => e = .returned (.int .u8 ((low c).toNat : Int)) ∧ w' = w := by
  have H := hide (isUpper_any c w)
  unfold low
  by_cases h1 : up c = true
  · have h2 : 65 ≤ c.toNat ∧ c.toNat ≤ 90 := by unfold up at h1; simpa using h1
    rw [if_pos h1]
    rw [h1] at H
    have h3 : Hid ((c + 32).toNat = c.toNat + 32) := hide (by rw [UInt8.toNat_add]; show (c.toNat + 32) % 256 = _; omega)
    have i3 : (c.toNat : Int) + 32 ≤ 255 := by omega
    go_enter Tryz.func73, Tryz.ntmps73
    go_wp2_with (go_at_call 87; refine (unhide H).mono ?_; rintro e w' ⟨rfl, rfl⟩)
    go_ret
    refine ⟨ret_int ?_, rfl⟩
    rw [unhide h3]
    try rw [IntKind.wrap_u8]
    omega
  · have h1' : up c = false := by simpa using h1
    rw [if_neg h1]
    rw [h1'] at H
    go_enter Tryz.func73, Tryz.ntmps73
    go_wp2_with (go_at_call 87; refine (unhide H).mono ?_; rintro e w' ⟨rfl, rfl⟩)
    go_ret
    exact ⟨rfl, rfl⟩
end Go.Proofs.YthlacailhfhjnaaGreatDoor
namespace Go.Proofs.YthlacailhfhjnaaGreatDoor
open Go.RowKit Go.Lib
theorem all_no (P : UInt8 → Bool) (s : List UInt8) (k : Nat) (h : k < s.length) (hp : P s[k] = false) : s.all P = false := by
  rw [Bool.eq_false_iff]
  intro q
  rw [List.all_eq_true] at q
  rw [q _ (List.getElem_mem h)] at hp
  cases hp
set_option maxHeartbeats 2000000 in
set_option maxRecDepth 8000 in
theorem all87_any (s : List UInt8) (w : World) (hs : s.length ≤ 9223372036854775807) : Calls Tryz.prog 86 #[S s, Fn1 87] w fun e w' => e = .returned (.bool (s.all up)) ∧ w' = w := by
  go_enter Tryz.func86, Tryz.ntmps86
  go_wp2
  go_loop [8] (fun i => ∃ k : Nat, k ≤ s.length ∧ i = .int .i64 k ∧ (s.take k).all up = true) (fun i => s.length - (Go.RowKit.intOf i).toNat)
  case atStart => exact ⟨0, by omega, rfl, rfl⟩
  case round =>
    obtain ⟨k, hk, rfl, ha⟩ := hrel
    by_cases hlt : k < s.length
    · have hsz : k < (ByteArray.mk s.toArray).size := by simpa [ByteArray.size] using hlt
      have hC : (ByteArray.mk s.toArray)[k]'hsz = s[k] := rfl
      have hA := hide ha
      have hT := hide (take_snoc s k hlt)
      have hE := hide (all_no up s k hlt)
      have hklt : (k : Int) < (s.length : Int) := by omega
      have HQ := hide (fun W => isUpper_any s[k] W)
      clear ha
      generalize s[k] = c at *
      by_cases hp : up c = true
      · rw [hp] at HQ
        have hR := hide (show (s.take (k + 1)).all up = true by rw [unhide hT]; simp [unhide hA, hp])
        clear hT hp hE
        go_wp2_with (go_at_call 87; refine (unhide HQ _).mono ?_; rintro e w' ⟨rfl, rfl⟩)
        go_round
        case rel => exact ⟨k + 1, by omega, by go_num, unhide hR⟩
        case measure => simp [Go.RowKit.intOf]; omega
      · have hp' : up c = false := by simpa using hp
        rw [hp'] at HQ
        have hF := hide (unhide hE hp')
        clear hp hp' hE hT hA
        go_wp2_with (go_at_call 87; refine (unhide HQ _).mono ?_; rintro e w' ⟨rfl, rfl⟩)
        go_ret
        exact ⟨ret_bool (unhide hF).symm, rfl⟩
    · have hd : decide (k < s.length) = false := by simp; omega
      have e : s.take k = s := List.take_of_length_le (by omega)
      rw [e] at ha
      have hA := hide ha
      clear ha e
      go_wp2
      go_ret
      exact ⟨ret_bool (unhide hA).symm, rfl⟩
set_option maxHeartbeats 2000000 in
set_option maxRecDepth 8000 in
theorem all89_any (s : List UInt8) (w : World) (hs : s.length ≤ 9223372036854775807) : Calls Tryz.prog 86 #[S s, Fn1 89] w fun e w' => e = .returned (.bool (s.all pby)) ∧ w' = w := by
  go_enter Tryz.func86, Tryz.ntmps86
  go_wp2
  go_loop [8] (fun i => ∃ k : Nat, k ≤ s.length ∧ i = .int .i64 k ∧ (s.take k).all pby = true) (fun i => s.length - (Go.RowKit.intOf i).toNat)
  case atStart => exact ⟨0, by omega, rfl, rfl⟩
  case round =>
    obtain ⟨k, hk, rfl, ha⟩ := hrel
    by_cases hlt : k < s.length
    · have hsz : k < (ByteArray.mk s.toArray).size := by simpa [ByteArray.size] using hlt
      have hC : (ByteArray.mk s.toArray)[k]'hsz = s[k] := rfl
      have hA := hide ha
      have hT := hide (take_snoc s k hlt)
      have hE := hide (all_no pby s k hlt)
      have hklt : (k : Int) < (s.length : Int) := by omega
      have HQ := hide (fun W => isPathByte_any s[k] W)
      clear ha
      generalize s[k] = c at *
      by_cases hp : pby c = true
      · rw [hp] at HQ
        have hR := hide (show (s.take (k + 1)).all pby = true by rw [unhide hT]; simp [unhide hA, hp])
        clear hT hp hE
        go_wp2_with (go_at_call 89; refine (unhide HQ _).mono ?_; rintro e w' ⟨rfl, rfl⟩)
        go_round
        case rel => exact ⟨k + 1, by omega, by go_num, unhide hR⟩
        case measure => simp [Go.RowKit.intOf]; omega
      · have hp' : pby c = false := by simpa using hp
        rw [hp'] at HQ
        have hF := hide (unhide hE hp')
        clear hp hp' hE hT hA
        go_wp2_with (go_at_call 89; refine (unhide HQ _).mono ?_; rintro e w' ⟨rfl, rfl⟩)
        go_ret
        exact ⟨ret_bool (unhide hF).symm, rfl⟩
    · have hd : decide (k < s.length) = false := by simp; omega
      have e : s.take k = s := List.take_of_length_le (by omega)
      rw [e] at ha
      have hA := hide ha
      clear ha e
      go_wp2
      go_ret
      exact ⟨ret_bool (unhide hA).symm, rfl⟩
set_option maxHeartbeats 2000000 in
set_option maxRecDepth 8000 in
theorem all96_any (s : List UInt8) (w : World) (hs : s.length ≤ 9223372036854775807) : Calls Tryz.prog 86 #[S s, Fn1 96] w fun e w' => e = .returned (.bool (s.all shn)) ∧ w' = w := by
  go_enter Tryz.func86, Tryz.ntmps86
  go_wp2
  go_loop [8] (fun i => ∃ k : Nat, k ≤ s.length ∧ i = .int .i64 k ∧ (s.take k).all shn = true) (fun i => s.length - (Go.RowKit.intOf i).toNat)
  case atStart => exact ⟨0, by omega, rfl, rfl⟩
  case round =>
    obtain ⟨k, hk, rfl, ha⟩ := hrel
    by_cases hlt : k < s.length
    · have hsz : k < (ByteArray.mk s.toArray).size := by simpa [ByteArray.size] using hlt
      have hC : (ByteArray.mk s.toArray)[k]'hsz = s[k] := rfl
      have hA := hide ha
      have hT := hide (take_snoc s k hlt)
      have hE := hide (all_no shn s k hlt)
      have hklt : (k : Int) < (s.length : Int) := by omega
      have HQ := hide (fun W => isShown_any s[k] W)
      clear ha
      generalize s[k] = c at *
      by_cases hp : shn c = true
      · rw [hp] at HQ
        have hR := hide (show (s.take (k + 1)).all shn = true by rw [unhide hT]; simp [unhide hA, hp])
        clear hT hp hE
        go_wp2_with (go_at_call 96; refine (unhide HQ _).mono ?_; rintro e w' ⟨rfl, rfl⟩)
        go_round
        case rel => exact ⟨k + 1, by omega, by go_num, unhide hR⟩
        case measure => simp [Go.RowKit.intOf]; omega
      · have hp' : shn c = false := by simpa using hp
        rw [hp'] at HQ
        have hF := hide (unhide hE hp')
        clear hp hp' hE hT hA
        go_wp2_with (go_at_call 96; refine (unhide HQ _).mono ?_; rintro e w' ⟨rfl, rfl⟩)
        go_ret
        exact ⟨ret_bool (unhide hF).symm, rfl⟩
    · have hd : decide (k < s.length) = false := by simp; omega
      have e : s.take k = s := List.take_of_length_le (by omega)
      rw [e] at ha
      have hA := hide ha
      clear ha e
      go_wp2
      go_ret
      exact ⟨ret_bool (unhide hA).symm, rfl⟩
set_option maxHeartbeats 2000000 in
set_option maxRecDepth 8000 in
theorem all109_any (s : List UInt8) (w : World) (hs : s.length ≤ 9223372036854775807) : Calls Tryz.prog 86 #[S s, Fn1 109] w fun e w' => e = .returned (.bool (s.all dgt)) ∧ w' = w := by
  go_enter Tryz.func86, Tryz.ntmps86
  go_wp2
  go_loop [8] (fun i => ∃ k : Nat, k ≤ s.length ∧ i = .int .i64 k ∧ (s.take k).all dgt = true) (fun i => s.length - (Go.RowKit.intOf i).toNat)
  case atStart => exact ⟨0, by omega, rfl, rfl⟩
  case round =>
    obtain ⟨k, hk, rfl, ha⟩ := hrel
    by_cases hlt : k < s.length
    · have hsz : k < (ByteArray.mk s.toArray).size := by simpa [ByteArray.size] using hlt
      have hC : (ByteArray.mk s.toArray)[k]'hsz = s[k] := rfl
      have hA := hide ha
      have hT := hide (take_snoc s k hlt)
      have hE := hide (all_no dgt s k hlt)
      have hklt : (k : Int) < (s.length : Int) := by omega
      have HQ := hide (fun W => isDigit_any s[k] W)
      clear ha
      generalize s[k] = c at *
      by_cases hp : dgt c = true
      · rw [hp] at HQ
        have hR := hide (show (s.take (k + 1)).all dgt = true by rw [unhide hT]; simp [unhide hA, hp])
        clear hT hp hE
        go_wp2_with (go_at_call 109; refine (unhide HQ _).mono ?_; rintro e w' ⟨rfl, rfl⟩)
        go_round
        case rel => exact ⟨k + 1, by omega, by go_num, unhide hR⟩
        case measure => simp [Go.RowKit.intOf]; omega
      · have hp' : dgt c = false := by simpa using hp
        rw [hp'] at HQ
        have hF := hide (unhide hE hp')
        clear hp hp' hE hT hA
        go_wp2_with (go_at_call 109; refine (unhide HQ _).mono ?_; rintro e w' ⟨rfl, rfl⟩)
        go_ret
        exact ⟨ret_bool (unhide hF).symm, rfl⟩
    · have hd : decide (k < s.length) = false := by simp; omega
      have e : s.take k = s := List.take_of_length_le (by omega)
      rw [e] at ha
      have hA := hide ha
      clear ha e
      go_wp2
      go_ret
      exact ⟨ret_bool (unhide hA).symm, rfl⟩
end Go.Proofs.YthlacailhfhjnaaGreatDoor
