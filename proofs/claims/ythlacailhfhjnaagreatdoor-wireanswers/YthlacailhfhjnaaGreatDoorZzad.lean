import Derived.Test.YthlacailhfhjnaaGreatDoorZzab
import Derived.Test.YthlacailhfhjnaaGreatDoorShlf
namespace Go.Proofs.YthlacailhfhjnaaGreatDoor
open Go.RowKit Go.Lib
theorem indexByte_mem (l : List UInt8) (c : UInt8) : decide (0 ≤ indexByte l c) = l.contains c ∧ (-1 ≤ indexByte l c) := by
  induction l with
  | nil => exact ⟨rfl, by show (-1 : Int) ≤ -1; omega⟩
  | cons b l ih =>
    unfold indexByte
    by_cases h : b = c
    · subst h
      simp
    · have h1 : (b == c) = false := by simpa using h
      have h2 : (c == b) = false := by simpa using fun e => h e.symm
      rw [h1, List.contains_cons, h2]
      by_cases h3 : indexByte l c = -1
      · rw [h3] at ih
        rw [h3]
        simpa using ih.1
      · have h4 : (indexByte l c == -1) = false := by simpa using h3
        rw [h4]
        have h5 : 0 ≤ indexByte l c := by have := ih.2; omega
        rw [decide_eq_true h5] at ih
        simp only [Bool.false_eq_true, if_false, Bool.false_or, ← ih.1]
        exact ⟨by simp; omega, by omega⟩
theorem u8_back (c : UInt8) : ((c.toNat : Int)).toNat.toUInt8 = c := by simp
set_option maxHeartbeats 4000000 in
set_option maxRecDepth 8000 in
theorem isNameByte_any (c : UInt8) (w : World) : Calls Tryz.prog 117 #[.int .u8 (c.toNat : Int)] w fun e w' => e = .returned (.bool (nby c)) ∧ w' = w := by
  have HU := hide (isUpper_any c w)
  have HD := hide (isDigit_any c w)
  have HI := hide (Tryz.strings_IndexByte ⟨#[33, 35, 36, 37, 38, 39, 42, 43, 45, 46, 94, 95, 96, 124, 126]⟩ (c.toNat : Int) w)
  rw [u8_back] at HI
  have HM := hide (indexByte_mem sgn c).1
  have HN : Hid (nby c = (decide (97 ≤ c.toNat ∧ c.toNat ≤ 122) || up c || dgt c || sgn.contains c)) := hide rfl
  have e0 : (ByteArray.mk #[33, 35, 36, 37, 38, 39, 42, 43, 45, 46, 94, 95, 96, 124, 126]).data.toList = sgn := rfl
  rw [e0] at HI
  generalize indexByte sgn c = I at *
  generalize sgn.contains c = G at *
  generalize nby c = X at *
  generalize hU : up c = U at *
  generalize hD : dgt c = D at *
  clear hU hD e0
  generalize c.toNat = n at *
  rcases (show n < 97 ∨ (97 ≤ n ∧ 122 < n) ∨ (97 ≤ n ∧ n ≤ 122) by omega) with h | ⟨h, h2⟩ | ⟨h, h2⟩
  case inr.inr =>
    have i1 : (97 : Int) ≤ (n : Int) := by omega
    have i2 : (n : Int) ≤ 122 := by omega
    have HX := hide (show X = true by rw [unhide HN]; simp [h, h2])
    clear HN
    go_enter Tryz.func117, Tryz.ntmps117
    go_wp2
    go_ret
    exact ⟨ret_bool (unhide HX).symm, rfl⟩
  case inl =>
    have i1 : ¬ (97 : Int) ≤ (n : Int) := by omega
    have HX := hide (show X = (U || D || G) by rw [unhide HN, show decide (97 ≤ n ∧ n ≤ 122) = false by simp; omega]; simp)
    clear HN
    cases U
    · cases D
      · by_cases hI : 0 ≤ I
        · go_enter Tryz.func117, Tryz.ntmps117
          go_wp2_with (first | (go_at_call 87; refine (unhide HU).mono ?_; rintro e w' ⟨rfl, rfl⟩) | (go_at_call 109; refine (unhide HD).mono ?_; rintro e w' ⟨rfl, rfl⟩) | (go_at_call 137; refine (unhide HI).mono ?_; rintro e w' ⟨rfl, rfl⟩))
          go_ret
          refine ⟨ret_bool ?_, rfl⟩
          rw [unhide HX, ← unhide HM]
          simp [hI]
        · go_enter Tryz.func117, Tryz.ntmps117
          go_wp2_with (first | (go_at_call 87; refine (unhide HU).mono ?_; rintro e w' ⟨rfl, rfl⟩) | (go_at_call 109; refine (unhide HD).mono ?_; rintro e w' ⟨rfl, rfl⟩) | (go_at_call 137; refine (unhide HI).mono ?_; rintro e w' ⟨rfl, rfl⟩))
          go_ret
          refine ⟨ret_bool ?_, rfl⟩
          rw [unhide HX, ← unhide HM]
          simp
      · go_enter Tryz.func117, Tryz.ntmps117
        go_wp2_with (first | (go_at_call 87; refine (unhide HU).mono ?_; rintro e w' ⟨rfl, rfl⟩) | (go_at_call 109; refine (unhide HD).mono ?_; rintro e w' ⟨rfl, rfl⟩))
        go_ret
        exact ⟨ret_bool (by rw [unhide HX]; simp), rfl⟩
    · go_enter Tryz.func117, Tryz.ntmps117
      go_wp2_with (first | (go_at_call 87; refine (unhide HU).mono ?_; rintro e w' ⟨rfl, rfl⟩))
      go_ret
      exact ⟨ret_bool (by rw [unhide HX]; simp), rfl⟩
  case inr.inl =>
    have i1 : (97 : Int) ≤ (n : Int) := by omega
    have i2 : ¬ (n : Int) ≤ 122 := by omega
    have HX := hide (show X = (U || D || G) by rw [unhide HN, show decide (97 ≤ n ∧ n ≤ 122) = false by simp; omega]; simp)
    clear HN
    cases U
    · cases D
      · by_cases hI : 0 ≤ I
        · go_enter Tryz.func117, Tryz.ntmps117
          go_wp2_with (first | (go_at_call 87; refine (unhide HU).mono ?_; rintro e w' ⟨rfl, rfl⟩) | (go_at_call 109; refine (unhide HD).mono ?_; rintro e w' ⟨rfl, rfl⟩) | (go_at_call 137; refine (unhide HI).mono ?_; rintro e w' ⟨rfl, rfl⟩))
          go_ret
          refine ⟨ret_bool ?_, rfl⟩
          rw [unhide HX, ← unhide HM]
          simp [hI]
        · go_enter Tryz.func117, Tryz.ntmps117
          go_wp2_with (first | (go_at_call 87; refine (unhide HU).mono ?_; rintro e w' ⟨rfl, rfl⟩) | (go_at_call 109; refine (unhide HD).mono ?_; rintro e w' ⟨rfl, rfl⟩) | (go_at_call 137; refine (unhide HI).mono ?_; rintro e w' ⟨rfl, rfl⟩))
          go_ret
          refine ⟨ret_bool ?_, rfl⟩
          rw [unhide HX, ← unhide HM]
          simp
      · go_enter Tryz.func117, Tryz.ntmps117
        go_wp2_with (first | (go_at_call 87; refine (unhide HU).mono ?_; rintro e w' ⟨rfl, rfl⟩) | (go_at_call 109; refine (unhide HD).mono ?_; rintro e w' ⟨rfl, rfl⟩))
        go_ret
        exact ⟨ret_bool (by rw [unhide HX]; simp), rfl⟩
    · go_enter Tryz.func117, Tryz.ntmps117
      go_wp2_with (first | (go_at_call 87; refine (unhide HU).mono ?_; rintro e w' ⟨rfl, rfl⟩))
      go_ret
      exact ⟨ret_bool (by rw [unhide HX]; simp), rfl⟩
set_option maxHeartbeats 2000000 in
set_option maxRecDepth 8000 in
theorem all117_any (s : List UInt8) (w : World) (hs : s.length ≤ 9223372036854775807) : Calls Tryz.prog 86 #[S s, Fn1 117] w fun e w' => e = .returned (.bool (s.all nby)) ∧ w' = w := by
  go_enter Tryz.func86, Tryz.ntmps86
  go_wp2
  go_loop [8] (fun i => ∃ k : Nat, k ≤ s.length ∧ i = .int .i64 k ∧ (s.take k).all nby = true) (fun i => s.length - (Go.RowKit.intOf i).toNat)
  case atStart => exact ⟨0, by omega, rfl, rfl⟩
  case round =>
    obtain ⟨k, hk, rfl, ha⟩ := hrel
    by_cases hlt : k < s.length
    · have hsz : k < (ByteArray.mk s.toArray).size := by simpa [ByteArray.size] using hlt
      have hC : (ByteArray.mk s.toArray)[k]'hsz = s[k] := rfl
      have hA := hide ha
      have hT := hide (take_snoc s k hlt)
      have hE := hide (all_no nby s k hlt)
      have hklt : (k : Int) < (s.length : Int) := by omega
      have HQ := hide (fun W => isNameByte_any s[k] W)
      clear ha
      generalize s[k] = c at *
      by_cases hp : nby c = true
      · rw [hp] at HQ
        have hR := hide (show (s.take (k + 1)).all nby = true by rw [unhide hT]; simp [unhide hA, hp])
        clear hT hp hE
        go_wp2_with (go_at_call 117; refine (unhide HQ _).mono ?_; rintro e w' ⟨rfl, rfl⟩)
        go_round
        case rel => exact ⟨k + 1, by omega, by go_num, unhide hR⟩
        case measure => simp [Go.RowKit.intOf]; omega
      · have hp' : nby c = false := by simpa using hp
        rw [hp'] at HQ
        have hF := hide (unhide hE hp')
        clear hp hp' hE hT hA
        go_wp2_with (go_at_call 117; refine (unhide HQ _).mono ?_; rintro e w' ⟨rfl, rfl⟩)
        go_ret
        exact ⟨ret_bool (unhide hF).symm, rfl⟩
    · have hd : decide (k < s.length) = false := by simp; omega
      have e : s.take k = s := List.take_of_length_le (by omega)
      rw [e] at ha
      have hA := hide ha
      clear ha e
      go_wp2
      go_ret
      exact ⟨ret_bool (unhide hA).symm, rfl⟩
end Go.Proofs.YthlacailhfhjnaaGreatDoor
namespace Go.Proofs.YthlacailhfhjnaaGreatDoor
open Go.RowKit Go.Lib
theorem ba_list (l : List UInt8) : (ByteArray.mk l.toArray).data.toList = l := rfl
theorem ba_size (l : List UInt8) : (ByteArray.mk l.toArray).size = l.length := by simp [ByteArray.size]
theorem pre_one (l : List UInt8) (c : UInt8) : hasPrefix l [c] = (l.head? == some c) := by
  cases l with
  | nil => rfl
  | cons a l => simp [hasPrefix, List.isPrefixOf, Bool.beq_comm]
theorem suf_one (l : List UInt8) (c : UInt8) : hasSuffix l [c] = (l.getLast? == some c) := by
  unfold hasSuffix List.isSuffixOf
  rw [List.getLast?_eq_head?_reverse]
  exact pre_one l.reverse c
theorem hasPrefix_any (l : List UInt8) (c : UInt8) (w : World) : Calls Tryz.prog 88 #[S l, .string ⟨#[c]⟩] w fun e w' => e = .returned (.bool (l.head? == some c)) ∧ w' = w := by
  have h := Tryz.strings_HasPrefix ⟨l.toArray⟩ ⟨#[c]⟩ w
  rw [ba_list, show (ByteArray.mk #[c]).data.toList = [c] from rfl, pre_one] at h
  exact h
theorem hasSuffix_any (l : List UInt8) (c : UInt8) (w : World) (hl : l.length ≤ 9223372036854775807) : Calls Tryz.prog 118 #[S l, .string ⟨#[c]⟩] w fun e w' => e = .returned (.bool (l.getLast? == some c)) ∧ w' = w := by
  have h := Tryz.strings_HasSuffix ⟨l.toArray⟩ ⟨#[c]⟩ w (by rw [ba_size]; exact hl)
  rw [ba_list, show (ByteArray.mk #[c]).data.toList = [c] from rfl, suf_one] at h
  exact h
set_option maxHeartbeats 2000000 in
theorem isMethod_any (s : Bs) (w : World) (hs : s.length ≤ 9223372036854775807) : Calls Tryz.prog 62 #[S s] w fun e w' => e = .returned (.bool (meth s)) ∧ w' = w := by
  have HA := hide (all87_any s w hs)
  have HX : Hid (meth s = (decide (1 ≤ s.length ∧ s.length ≤ 16) && s.all up)) := hide rfl
  generalize s.all up = A at *
  generalize meth s = X at *
  by_cases h1 : 1 ≤ s.length
  · have i1 : (1 : Int) ≤ (s.length : Int) := by omega
    by_cases h2 : s.length ≤ 16
    · have i2 : (s.length : Int) ≤ 16 := by omega
      go_enter Tryz.func62, Tryz.ntmps62
      go_wp2_with (go_at_call 86; refine (unhide HA).mono ?_; rintro e w' ⟨rfl, rfl⟩)
      go_ret
      refine ⟨ret_bool ?_, rfl⟩
      rw [unhide HX, decide_eq_true ⟨h1, h2⟩]
      simp
    · have i2 : ¬ (s.length : Int) ≤ 16 := by omega
      go_enter Tryz.func62, Tryz.ntmps62
      go_wp2
      go_ret
      refine ⟨ret_bool ?_, rfl⟩
      rw [unhide HX, decide_eq_false (by omega)]
      rfl
  · have i1 : ¬ (1 : Int) ≤ (s.length : Int) := by omega
    go_enter Tryz.func62, Tryz.ntmps62
    go_wp2
    go_ret
    refine ⟨ret_bool ?_, rfl⟩
    rw [unhide HX, decide_eq_false (by omega)]
    rfl
set_option maxHeartbeats 2000000 in
theorem isHeaderName_any (s : Bs) (w : World) (hs : s.length ≤ 9223372036854775807) : Calls Tryz.prog 104 #[S s] w fun e w' => e = .returned (.bool (hnm s)) ∧ w' = w := by
  have HA := hide (all117_any s w hs)
  have HX : Hid (hnm s = (decide (1 ≤ s.length ∧ s.length ≤ 40) && s.all nby)) := hide rfl
  generalize s.all nby = A at *
  generalize hnm s = X at *
  by_cases h1 : 1 ≤ s.length
  · have i1 : (1 : Int) ≤ (s.length : Int) := by omega
    by_cases h2 : s.length ≤ 40
    · have i2 : (s.length : Int) ≤ 40 := by omega
      go_enter Tryz.func104, Tryz.ntmps104
      go_wp2_with (go_at_call 86; refine (unhide HA).mono ?_; rintro e w' ⟨rfl, rfl⟩)
      go_ret
      refine ⟨ret_bool ?_, rfl⟩
      rw [unhide HX, decide_eq_true ⟨h1, h2⟩]
      simp
    · have i2 : ¬ (s.length : Int) ≤ 40 := by omega
      go_enter Tryz.func104, Tryz.ntmps104
      go_wp2
      go_ret
      refine ⟨ret_bool ?_, rfl⟩
      rw [unhide HX, decide_eq_false (by omega)]
      rfl
  · have i1 : ¬ (1 : Int) ≤ (s.length : Int) := by omega
    go_enter Tryz.func104, Tryz.ntmps104
    go_wp2
    go_ret
    refine ⟨ret_bool ?_, rfl⟩
    rw [unhide HX, decide_eq_false (by omega)]
    rfl
set_option maxHeartbeats 2000000 in
theorem isPath_any (s : Bs) (w : World) (hs : s.length ≤ 9223372036854775807) : Calls Tryz.prog 63 #[S s] w fun e w' => e = .returned (.bool (pth s)) ∧ w' = w := by
  have HA := hide (all89_any s w hs)
  have HP := hide (hasPrefix_any s 47 w)
  have HX : Hid (pth s = (decide (s.length ≤ 200) && s.head? == some 47 && s.all pby)) := hide rfl
  generalize s.all pby = A at *
  generalize (s.head? == some 47) = P at *
  generalize pth s = X at *
  by_cases h2 : s.length ≤ 200
  · have i2 : (s.length : Int) ≤ 200 := by omega
    cases P
    · go_enter Tryz.func63, Tryz.ntmps63
      go_wp2_with (first | (go_at_call 88; refine (unhide HP).mono ?_; rintro e w' ⟨rfl, rfl⟩) | (go_at_call 86; refine (unhide HA).mono ?_; rintro e w' ⟨rfl, rfl⟩))
      go_ret
      refine ⟨ret_bool ?_, rfl⟩
      rw [unhide HX]
      simp
    · go_enter Tryz.func63, Tryz.ntmps63
      go_wp2_with (first | (go_at_call 88; refine (unhide HP).mono ?_; rintro e w' ⟨rfl, rfl⟩) | (go_at_call 86; refine (unhide HA).mono ?_; rintro e w' ⟨rfl, rfl⟩))
      go_ret
      refine ⟨ret_bool ?_, rfl⟩
      rw [unhide HX, decide_eq_true h2]
      simp
  · have i2 : ¬ (s.length : Int) ≤ 200 := by omega
    go_enter Tryz.func63, Tryz.ntmps63
    go_wp2
    go_ret
    refine ⟨ret_bool ?_, rfl⟩
    rw [unhide HX, decide_eq_false h2]
    rfl
set_option maxHeartbeats 2000000 in
theorem isHeaderValue_any (s : Bs) (w : World) (hs : s.length ≤ 9223372036854775807) : Calls Tryz.prog 105 #[S s] w fun e w' => e = .returned (.bool (hvl s)) ∧ w' = w := by
  have HA := hide (all96_any s w hs)
  have HP := hide (hasPrefix_any s 32 w)
  have HQ := hide (hasSuffix_any s 32 w hs)
  have HX : Hid (hvl s = (s.all shn && !(s.head? == some 32) && !(s.getLast? == some 32))) := hide rfl
  generalize s.all shn = A at *
  generalize (s.head? == some 32) = P at *
  generalize (s.getLast? == some 32) = Q at *
  generalize hvl s = X at *
  cases A
  · go_enter Tryz.func105, Tryz.ntmps105
    go_wp2_with (first | (go_at_call 86; refine (unhide HA).mono ?_; rintro e w' ⟨rfl, rfl⟩))
    go_ret
    exact ⟨ret_bool (by rw [unhide HX]; rfl), rfl⟩
  · cases P
    · go_enter Tryz.func105, Tryz.ntmps105
      go_wp2_with (first | (go_at_call 88; refine (unhide HP).mono ?_; rintro e w' ⟨rfl, rfl⟩) | (go_at_call 86; refine (unhide HA).mono ?_; rintro e w' ⟨rfl, rfl⟩) | (go_at_call 118; refine (unhide HQ).mono ?_; rintro e w' ⟨rfl, rfl⟩))
      go_ret
      exact ⟨ret_bool (by rw [unhide HX]; simp), rfl⟩
    · go_enter Tryz.func105, Tryz.ntmps105
      go_wp2_with (first | (go_at_call 88; refine (unhide HP).mono ?_; rintro e w' ⟨rfl, rfl⟩) | (go_at_call 86; refine (unhide HA).mono ?_; rintro e w' ⟨rfl, rfl⟩))
      go_ret
      exact ⟨ret_bool (by rw [unhide HX]; rfl), rfl⟩
def stat (n : Int) : Bool := decide (100 ≤ n ∧ n ≤ 599)
set_option maxHeartbeats 2000000 in
theorem isStatus_any (n : Int) (w : World) : Calls Tryz.prog 66 #[.int .i64 n] w fun e w' => e = .returned (.bool (stat n)) ∧ w' = w := by
  unfold stat
  by_cases h1 : 100 ≤ n
  · by_cases h2 : n ≤ 599
    · go_enter Tryz.func66, Tryz.ntmps66
      go_wp2
      go_ret
      exact ⟨ret_bool (by simp [h1, h2]), rfl⟩
    · go_enter Tryz.func66, Tryz.ntmps66
      go_wp2
      go_ret
      exact ⟨ret_bool (by simp [h2]), rfl⟩
  · go_enter Tryz.func66, Tryz.ntmps66
    go_wp2
    go_ret
    exact ⟨ret_bool (by simp; omega), rfl⟩
theorem num_zero : num [48] = true := by decide
set_option maxHeartbeats 2000000 in
set_option maxRecDepth 8000 in
theorem isNumber_any (s : Bs) (w : World) (hs : s.length ≤ 9223372036854775807) : Calls Tryz.prog 95 #[S s] w fun e w' => e = .returned (.bool (num s)) ∧ w' = w := by
  have HA := hide (all109_any s w hs)
  have HX : Hid (num s = (s == [48] || (!(s == []) && !(s.head? == some 48) && s.all dgt))) := hide rfl
  match s with
  | [] =>
    clear HA
    go_enter Tryz.func95, Tryz.ntmps95
    go_wp2
    go_ret
    exact ⟨ret_bool (by rw [unhide HX]; rfl), rfl⟩
  | c :: l =>
    by_cases h0 : c :: l = [48]
    · cases h0
      clear HA
      go_enter Tryz.func95, Tryz.ntmps95
      go_wp2
      go_ret
      exact ⟨ret_bool num_zero.symm, rfl⟩
    · have hne : (c :: l == [48]) = false := by simpa using h0
      have hsz : 0 < (ByteArray.mk (c :: l).toArray).size := by simp [ByteArray.size]
      have hC : (ByteArray.mk (c :: l).toArray)[0]'hsz = c := rfl
      have hln : (0 : Int) < ((c :: l).length : Nat) := by simp
      by_cases hc : c = 48
      · subst hc
        have HX2 := hide (show num (48 :: l) = false by rw [unhide HX, hne]; simp)
        clear HX HA
        go_enter Tryz.func95, Tryz.ntmps95
        go_wp2
        go_ret
        exact ⟨ret_bool (unhide HX2).symm, rfl⟩
      · have hc1 : ¬ (c.toNat : Int) = 48 := toNat_ne hc
        have HX2 := hide (show num (c :: l) = (c :: l).all dgt by rw [unhide HX, hne]; simp [hc])
        clear HX
        generalize (c :: l).all dgt = A at *
        go_enter Tryz.func95, Tryz.ntmps95
        go_wp2_with (go_at_call 86; refine (unhide HA).mono ?_; rintro e w' ⟨rfl, rfl⟩)
        go_ret
        refine ⟨ret_bool ?_, rfl⟩
        rw [unhide HX2]
        simp [hc1]
end Go.Proofs.YthlacailhfhjnaaGreatDoor
namespace Go.Proofs.YthlacailhfhjnaaGreatDoor
open Go.RowKit Go.Lib
def fl0 : Fl := ([], [])
/-- Fields, one behind the other in memory. -/
def Fls (w : World) (a : Option Addr) (n : Nat) (fs : List Fl) : Prop :=
  n = fs.length ∧ (0 < n → ∃ p o, a = some ⟨p, o, none⟩ ∧ ∀ j, j < n → w.cell? ⟨p, o + j * 2, none⟩ = some (S (fs.getD j fl0).1) ∧ w.cell? ⟨p, o + j * 2 + 1, none⟩ = some (S (fs.getD j fl0).2))
theorem blk_lt {w : World} {p o : Nat} {v : Value} (h : w.cell? ⟨p, o, none⟩ = some v) : p < w.heap.size := by
  rcases Nat.lt_or_ge p w.heap.size with h' | h'
  · exact h'
  · simp [World.cell?, Array.getElem?_eq_none h'] at h
theorem Fls.at {w : World} {a : Option Addr} {n : Nat} {fs : List Fl} (h : Fls w a n fs) {j : Nat} (hj : j < n) : ∃ p o, a = some ⟨p, o, none⟩ ∧ p < w.heap.size ∧ w.cell? ⟨p, o + j * 2, none⟩ = some (S (fs.getD j fl0).1) ∧ w.cell? ⟨p, o + j * 2 + 1, none⟩ = some (S (fs.getD j fl0).2) := by
  obtain ⟨p, o, e, hc⟩ := h.2 (by omega)
  exact ⟨p, o, e, blk_lt (hc j hj).1, hc j hj⟩
theorem Fls.nil (w : World) (a : Option Addr) : Fls w a 0 [] := ⟨rfl, fun h => absurd h (Nat.lt_irrefl 0)⟩
theorem Fls.below {w w' : World} {a : Option Addr} {n : Nat} {fs : List Fl} (h : Fls w a n fs) (hb : Below w.heap.size w w') : Fls w' a n fs := by
  refine ⟨h.1, fun hn => ?_⟩
  obtain ⟨p, o, e, hc⟩ := h.2 hn
  exact ⟨p, o, e, fun j hj => ⟨(hb.cell (by exact blk_lt (hc j hj).1)).trans (hc j hj).1, (hb.cell (by exact blk_lt (hc j hj).2)).trans (hc j hj).2⟩⟩
theorem below_dN {B : Nat} {a w : World} (h : Below B a w) (n : Nat) : Below B a (w.drewN n) := h.trans ⟨rfl, rfl, rfl, Nat.le_refl _, fun _ _ => rfl⟩
def Lens (fs : List Fl) : Prop := ∀ j, (fs.getD j fl0).1.length ≤ 140737488351232 ∧ (fs.getD j fl0).2.length ≤ 140737488351232
set_option maxHeartbeats 4000000 in
set_option maxRecDepth 8000 in
theorem isHeader_any (f : Fl) (w : World) (h1 : f.1.length ≤ 140737488351232) (h2 : f.2.length ≤ 140737488351232) : Calls Tryz.prog 90 #[.agg #[S f.1, S f.2]] w fun e w' => e = .returned (.bool (hdr f)) ∧ Below w.heap.size w w' := by
  obtain ⟨n, v⟩ := f
  simp only at h1 h2 ⊢
  have HN := hide (fun W => isHeaderName_any n W (by omega))
  have HV := hide (fun W => isHeaderValue_any v W (by omega))
  have HC := hide (fun W => alike_any n CL W (by omega))
  have HT := hide (fun W => alike_any n TE W (by omega))
  have HX : Hid (hdr (n, v) = (decide (n.length + 2 + v.length ≤ 1000) && hnm n && hvl v && !alk n CL && !alk n TE)) := hide rfl
  generalize hdr (n, v) = X at *
  generalize hnm n = A at *
  generalize hvl v = B1 at *
  generalize alk n CL = C at *
  generalize alk n TE = D at *
  by_cases hl : n.length + 2 + v.length ≤ 1000
  · have il : (n.length : Int) + 2 + (v.length : Int) ≤ 1000 := by omega
    rw [decide_eq_true hl] at HX
    cases A
    · go_enter Tryz.func90, Tryz.ntmps90
      go_wp2_with (first | (go_at_call 104; refine (unhide HN _).mono ?_; rintro e w' ⟨rfl, rfl⟩))
      go_ret
      exact ⟨ret_bool (by rw [unhide HX]; rfl), (Below.refl _ _).alloc (Nat.le_refl _) _⟩
    cases B1
    · go_enter Tryz.func90, Tryz.ntmps90
      go_wp2_with (first | (go_at_call 104; refine (unhide HN _).mono ?_; rintro e w' ⟨rfl, rfl⟩) | (go_at_call 105; refine (unhide HV _).mono ?_; rintro e w' ⟨rfl, rfl⟩))
      go_ret
      exact ⟨ret_bool (by rw [unhide HX]; rfl), (Below.refl _ _).alloc (Nat.le_refl _) _⟩
    cases C
    · go_enter Tryz.func90, Tryz.ntmps90
      go_wp2_with (first | (go_at_call 104; refine (unhide HN _).mono ?_; rintro e w' ⟨rfl, rfl⟩) | (go_at_call 105; refine (unhide HV _).mono ?_; rintro e w' ⟨rfl, rfl⟩))
      go_wp2_with fail
      refine (unhide HC _).mono ?_
      rintro e w1 ⟨rfl, q, rfl⟩
      go_wp2_with fail
      refine (unhide HT _).mono ?_
      rintro e w1 ⟨rfl, q2, rfl⟩
      go_wp2
      go_ret
      exact ⟨ret_bool (by rw [unhide HX]; simp), below_dN ((Below.refl _ _).alloc (Nat.le_refl _) _) _⟩
    · go_enter Tryz.func90, Tryz.ntmps90
      go_wp2_with (first | (go_at_call 104; refine (unhide HN _).mono ?_; rintro e w' ⟨rfl, rfl⟩) | (go_at_call 105; refine (unhide HV _).mono ?_; rintro e w' ⟨rfl, rfl⟩))
      go_wp2_with fail
      refine (unhide HC _).mono ?_
      rintro e w1 ⟨rfl, q, rfl⟩
      go_wp2
      go_ret
      exact ⟨ret_bool (by rw [unhide HX]; rfl), below_dN ((Below.refl _ _).alloc (Nat.le_refl _) _) _⟩
  · have il : ¬ (n.length : Int) + 2 + (v.length : Int) ≤ 1000 := by omega
    rw [decide_eq_false hl] at HX
    go_enter Tryz.func90, Tryz.ntmps90
    go_wp2
    go_ret
    exact ⟨ret_bool (by rw [unhide HX]; rfl), (Below.refl _ _).alloc (Nat.le_refl _) _⟩
theorem flw_many {hs : List Fl} {b : Bs} (h : 32 < hs.length) : flw hs b = false := by
  unfold flw; rw [decide_eq_false (by omega)]; rfl
theorem flw_long {hs : List Fl} {b : Bs} (h : 4000 < b.length) : flw hs b = false := by
  unfold flw; rw [decide_eq_false (by omega)]; rfl
theorem flw_no {hs : List Fl} {b : Bs} (k : Nat) (h : k < hs.length) (hh : hdr (hs.getD k fl0) = false) : flw hs b = false := by
  have e : hs.getD k fl0 = hs[k] := by simp [h]
  rw [e] at hh
  unfold flw
  have : hs.all hdr = false := by
    rw [Bool.eq_false_iff]
    intro q
    rw [List.all_eq_true] at q
    rw [q _ (List.getElem_mem h)] at hh
    cases hh
  rw [this]; simp
theorem flw_yes {hs : List Fl} {b : Bs} (h1 : hs.length ≤ 32) (h2 : b.length ≤ 4000) (hh : ∀ k, k < hs.length → hdr (hs.getD k fl0) = true) : flw hs b = true := by
  unfold flw
  rw [decide_eq_true ⟨h1, h2⟩]
  have : hs.all hdr = true := by
    rw [List.all_eq_true]
    intro f hf
    obtain ⟨k, hk, rfl⟩ := List.mem_iff_getElem.1 hf
    have := hh k hk
    simpa [hk] using this
  rw [this]; rfl
set_option maxHeartbeats 4000000 in
set_option maxRecDepth 8000 in
theorem mayFollow_any (a : Option Addr) (n cap : Nat) (fs : List Fl) (b : Bs) (w : World) (hp : Fls w a n fs) (hL : Lens fs) (hn : n ≤ 140737488351232) (hb : b.length ≤ 9223372036854775807) :
    Calls Tryz.prog 64 #[.slice a n cap, S b] w fun e w' => e = .returned (.bool (flw fs b)) ∧ Below w.heap.size w w' := by
  have HP := hide hp
  have HN := hide hp.1
  clear hp
  by_cases h1 : 32 < n
  · have HX := hide (flw_many (b := b) (by have := unhide HN; omega : 32 < fs.length))
    have i1 : (32 : Int) < (n : Int) := by omega
    go_enter Tryz.func64, Tryz.ntmps64
    go_wp2
    go_ret
    exact ⟨ret_bool (unhide HX).symm, Below.refl _ _⟩
  · have i1 : ¬ (32 : Int) < (n : Int) := by omega
    by_cases h2 : 4000 < b.length
    · have HX := hide (flw_long (hs := fs) h2)
      have i2 : (4000 : Int) < (b.length : Int) := by omega
      go_enter Tryz.func64, Tryz.ntmps64
      go_wp2
      go_ret
      exact ⟨ret_bool (unhide HX).symm, Below.refl _ _⟩
    · have i2 : ¬ (4000 : Int) < (b.length : Int) := by omega
      go_enter Tryz.func64, Tryz.ntmps64
      go_wp2
      go_loopw [17] (fun i wr => ∃ k : Nat, k ≤ n ∧ i = .int .i64 k ∧ (∀ j, j < k → hdr (fs.getD j fl0) = true) ∧ Below w.heap.size w wr) (fun i _ => n - (Go.RowKit.intOf i).toNat)
      case atStart => exact ⟨0, by omega, rfl, fun j h => absurd h (Nat.not_lt_zero j), Below.refl _ _⟩
      case round =>
        obtain ⟨k, hk, rfl, hq, hbr⟩ := hrel
        have HQ := hide hq
        clear hq
        by_cases hlt : k < n
        · obtain ⟨p, o, rfl, hpl, hc0, hc1⟩ := ((unhide HP).below hbr).at hlt
          have hlt' : (k : Int) < (n : Int) := by omega
          have HF := hide (fun h => flw_no (hs := fs) (b := b) k (by have := unhide HN; omega) h)
          have HS := hide (fun (h : hdr (fs.getD k fl0) = true) (j : Nat) (h3 : j < k + 1) => (show hdr (fs.getD j fl0) = true by
            by_cases e : j = k
            · subst e; exact h
            · exact unhide HQ j (by omega)))
          have hl := hL k
          have HH := hide (fun W => isHeader_any (fs.getD k fl0) W hl.1 hl.2)
          have hb2 := hide (hbr.alloc (o := Obj.cells #[S (fs.getD k fl0).1, S (fs.getD k fl0).2] 35) hbr.size)
          clear HQ hl
          generalize fs.getD k fl0 = F at *
          obtain ⟨fn, fv⟩ := F
          simp only at hc0 hc1
          generalize hdr (fn, fv) = H at *
          cases H
          · have HF2 := hide (unhide HF rfl)
            clear HF HS
            go_wp2_with fail
            refine (unhide HH _).mono ?_
            rintro e w3 ⟨rfl, b3⟩
            have hb3 := hide ((unhide hb2).trans (b3.mono (unhide hb2).size))
            go_wp2
            go_ret
            exact ⟨ret_bool (unhide HF2).symm, unhide hb3⟩
          · have HS2 := hide (unhide HS rfl)
            clear HF HS
            go_wp2_with fail
            refine (unhide HH _).mono ?_
            rintro e w3 ⟨rfl, b3⟩
            have hb3 := hide ((unhide hb2).trans (b3.mono (unhide hb2).size))
            go_wp2
            refine ⟨⟨k + 1, by omega, by go_num, unhide HS2, unhide hb3⟩, ?_⟩
            simp [Go.RowKit.intOf]; omega
        · have hd : decide (k < n) = false := by simp; omega
          have HX := hide (flw_yes (b := b) (by have := unhide HN; omega) (by omega) (fun j hj => unhide HQ j (by have := unhide HN; omega)))
          clear HQ
          go_wp2
          go_ret
          exact ⟨ret_bool (unhide HX).symm, hbr⟩
end Go.Proofs.YthlacailhfhjnaaGreatDoor
