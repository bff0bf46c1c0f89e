import Derived.Test.YthlacailhfhjnaaGreatDoorShlf
import Derived.Test.YthlacailhfhjnaaGreatDoorWbc
import Derived.Shelf.Strings.Builder1
import Derived.Shelf.Strings.Trim
import Derived.Shelf.Small.Strs
import Derived.Shelf.Small.Wraps
import Derived.Shelf.Strings.BuilderF
import Derived.Shelf.Strings.BuilderK
import Derived.Shelf.LaysM
import Derived.Shelf.Strconv.Itoa3
import Derived.Shelf.Strconv.Clone
import Derived.Shelf.LaysC
import Derived.Shelf.Strconv.AtoiAll
import Derived.Shelf.Strings.Search1
import Derived.Shelf.Strings.Search2
import Derived.Shelf.Strings.Prefix
import Derived.Test.YthlacailhfhjnaaGreatDoorProg
namespace Go.Proofs.YthlacailhfhjnaaGreatDoor
open Go.RowKit Go.Lib
theorem indexByte_mem (l : List UInt8) (c : UInt8) : decide (0 ≤ indexByte l c) = l.contains c ∧ (-1 ≤ indexByte l c) := by
  induction l with
  | nil => exact ⟨rfl, by show (-1 : Int) ≤ -1; omega⟩
  | cons b l ih =>
    unfold indexByte
    by_cases h : b = c
    · subst h
      simp
    · have h1 : (b == c) = false := by simpa using h
      have h2 : (c == b) = false := by simpa using fun e => h e.symm
      rw [h1, List.contains_cons, h2]
      by_cases h3 : indexByte l c = -1
      · rw [h3] at ih
        rw [h3]
        simpa using ih.1
      · have h4 : (indexByte l c == -1) = false := by simpa using h3
        rw [h4]
        have h5 : 0 ≤ indexByte l c := by have := ih.2; omega
        rw [decide_eq_true h5] at ih
        simp only [Bool.false_eq_true, if_false, Bool.false_or, ← ih.1]
        exact ⟨by simp; omega, by omega⟩
theorem u8_back (c : UInt8) : ((c.toNat : Int)).toNat.toUInt8 = c := by simp
set_option maxHeartbeats 4000000 in
set_option maxRecDepth 8000 in
theorem isNameByte_any (c : UInt8) (w : World) : Calls Tryz.prog 117 #[.int .u8 (c.toNat : Int)] w fun e w' => e = .returned (.bool (nby c)) ∧ w' = w := by
  have HU := hide (isUpper_any c w)
  have HD := hide (isDigit_any c w)
  have HI := hide (Tryz.strings_IndexByte ⟨#[33, 35, 36, 37, 38, 39, 42, 43, 45, 46, 94, 95, 96, 124, 126]⟩ (c.toNat : Int) w)
  rw [u8_back] at HI
  have HM := hide (indexByte_mem sgn c).1
  have HN : Hid (nby c = (decide (97 ≤ c.toNat ∧ c.toNat ≤ 122) || up c || dgt c || sgn.contains c)) := hide rfl
  have e0 : (ByteArray.mk #[33, 35, 36, 37, 38, 39, 42, 43, 45, 46, 94, 95, 96, 124, 126]).data.toList = sgn := rfl
  rw [e0] at HI
  generalize indexByte sgn c = I at *
  generalize sgn.contains c = G at *
  generalize nby c = X at *
  generalize hU : up c = U at *
  generalize hD : dgt c = D at *
  clear hU hD e0
  generalize c.toNat = n at *
  rcases (show n < 97 ∨ (97 ≤ n ∧ 122 < n) ∨ (97 ≤ n ∧ n ≤ 122) by omega) with h | ⟨h, h2⟩ | ⟨h, h2⟩
  case inr.inr =>
    have i1 : (97 : Int) ≤ (n : Int) := by omega
    have i2 : (n : Int) ≤ 122 := by omega
    have HX := hide (show X = true by rw [unhide HN]; simp [h, h2])
    clear HN
    go_enter Tryz.func117, Tryz.ntmps117
    go_wp2
    go_ret
    exact ⟨ret_bool (unhide HX).symm, rfl⟩
  case inl =>
    have i1 : ¬ (97 : Int) ≤ (n : Int) := by omega
    have HX := hide (show X = (U || D || G) by rw [unhide HN, show decide (97 ≤ n ∧ n ≤ 122) = false by simp; omega]; simp)
    clear HN
    cases U
    · cases D
      · by_cases hI : 0 ≤ I
        · go_enter Tryz.func117, Tryz.ntmps117
          go_wp2_with (first | (go_at_call 87; refine (unhide HU).mono ?_; rintro e w' ⟨rfl, rfl⟩) | (go_at_call 109; refine (unhide HD).mono ?_; rintro e w' ⟨rfl, rfl⟩) | (go_at_call 137; refine (unhide HI).mono ?_; rintro e w' ⟨rfl, rfl⟩))
          go_ret
          refine ⟨ret_bool ?_, rfl⟩
          rw [unhide HX, ← unhide HM]
          simp [hI]
        · go_enter Tryz.func117, Tryz.ntmps117
          go_wp2_with (first | (go_at_call 87; refine (unhide HU).mono ?_; rintro e w' ⟨rfl, rfl⟩) | (go_at_call 109; refine (unhide HD).mono ?_; rintro e w' ⟨rfl, rfl⟩) | (go_at_call 137; refine (unhide HI).mono ?_; rintro e w' ⟨rfl, rfl⟩))
          go_ret
          refine ⟨ret_bool ?_, rfl⟩
          rw [unhide HX, ← unhide HM]
          simp
      · go_enter Tryz.func117, Tryz.ntmps117
        go_wp2_with (first | (go_at_call 87; refine (unhide HU).mono ?_; rintro e w' ⟨rfl, rfl⟩) | (go_at_call 109; refine (unhide HD).mono ?_; rintro e w' ⟨rfl, rfl⟩))
        go_ret
        exact ⟨ret_bool (by rw [unhide HX]; simp), rfl⟩
    · go_enter Tryz.func117, Tryz.ntmps117
      go_wp2_with (first | (go_at_call 87; refine (unhide HU).mono ?_; rintro e w' ⟨rfl, rfl⟩))
      go_ret
      exact ⟨ret_bool (by rw [unhide HX]; simp), rfl⟩
  case inr.inl =>
    have i1 : (97 : Int) ≤ (n : Int) := by omega
    have i2 : ¬ (n : Int) ≤ 122 := by omega
    have HX := hide (show X = (U || D || G) by rw [unhide HN, show decide (97 ≤ n ∧ n ≤ 122) = false by simp; omega]; simp)
    clear HN
    cases U
    · cases D
      · by_cases hI : 0 ≤ I
        · go_enter Tryz.func117, Tryz.ntmps117
          go_wp2_with (first | (go_at_call 87; refine (unhide HU).mono ?_; rintro e w' ⟨rfl, rfl⟩) | (go_at_call 109; refine (unhide HD).mono ?_; rintro e w' ⟨rfl, rfl⟩) | (go_at_call 137; refine (unhide HI).mono ?_; rintro e w' ⟨rfl, rfl⟩))
          go_ret
          refine ⟨ret_bool ?_, rfl⟩
          rw [unhide HX, ← unhide HM]
          simp [hI]
        · go_enter Tryz.func117, Tryz.ntmps117
          go_wp2_with (first | (go_at_call 87; refine (unhide HU).mono ?_; rintro e w' ⟨rfl, rfl⟩) | (go_at_call 109; refine (unhide HD).mono ?_; rintro e w' ⟨rfl, rfl⟩) | (go_at_call 137; refine (unhide HI).mono ?_; rintro e w' ⟨rfl, rfl⟩))
          go_ret
          refine ⟨ret_bool ?_, rfl⟩
          rw [unhide HX, ← unhide HM]
          simp
      · go_enter Tryz.func117, Tryz.ntmps117
        go_wp2_with (first | (go_at_call 87; refine (unhide HU).mono ?_; rintro e w' ⟨rfl, rfl⟩) | (go_at_call 109; refine (unhide HD).mono ?_; rintro e w' ⟨rfl, rfl⟩))
        go_ret
        exact ⟨ret_bool (by rw [unhide HX]; simp), rfl⟩
    · go_enter Tryz.func117, Tryz.ntmps117
      go_wp2_with (first | (go_at_call 87; refine (unhide HU).mono ?_; rintro e w' ⟨rfl, rfl⟩))
      go_ret
      exact ⟨ret_bool (by rw [unhide HX]; simp), rfl⟩
set_option maxHeartbeats 2000000 in
set_option maxRecDepth 8000 in
theorem all117_any (s : List UInt8) (w : World) (hs : s.length ≤ 9223372036854775807) : Calls Tryz.prog 86 #[S s, Fn1 117] w fun e w' => e = .returned (.bool (s.all nby)) ∧ w' = w := by
  go_enter Tryz.func86, Tryz.ntmps86
  go_wp2
  go_loop [8] (fun i => ∃ k : Nat, k ≤ s.length ∧ i = .int .i64 k ∧ (s.take k).all nby = true) (fun i => s.length - (Go.RowKit.intOf i).toNat)
  case atStart => exact ⟨0, by omega, rfl, rfl⟩
  case round =>
    obtain ⟨k, hk, rfl, ha⟩ := hrel
    by_cases hlt : k < s.length
    · have hsz : k < (ByteArray.mk s.toArray).size := by simpa [ByteArray.size] using hlt
      have hC : (ByteArray.mk s.toArray)[k]'hsz = s[k] := rfl
      have hA := hide ha
      have hT := hide (take_snoc s k hlt)
      have hE := hide (all_no nby s k hlt)
      have hklt : (k : Int) < (s.length : Int) := by omega
      have HQ := hide (fun W => isNameByte_any s[k] W)
      clear ha
      generalize s[k] = c at *
      by_cases hp : nby c = true
      · rw [hp] at HQ
        have hR := hide (show (s.take (k + 1)).all nby = true by rw [unhide hT]; simp [unhide hA, hp])
        clear hT hp hE
        go_wp2_with (go_at_call 117; refine (unhide HQ _).mono ?_; rintro e w' ⟨rfl, rfl⟩)
        go_round
        case rel => exact ⟨k + 1, by omega, by go_num, unhide hR⟩
        case measure => simp [Go.RowKit.intOf]; omega
      · have hp' : nby c = false := by simpa using hp
        rw [hp'] at HQ
        have hF := hide (unhide hE hp')
        clear hp hp' hE hT hA
        go_wp2_with (go_at_call 117; refine (unhide HQ _).mono ?_; rintro e w' ⟨rfl, rfl⟩)
        go_ret
        exact ⟨ret_bool (unhide hF).symm, rfl⟩
    · have hd : decide (k < s.length) = false := by simp; omega
      have e : s.take k = s := List.take_of_length_le (by omega)
      rw [e] at ha
      have hA := hide ha
      clear ha e
      go_wp2
      go_ret
      exact ⟨ret_bool (unhide hA).symm, rfl⟩
end Go.Proofs.YthlacailhfhjnaaGreatDoor
namespace Go.Proofs.YthlacailhfhjnaaGreatDoor
open Go.RowKit Go.Lib
theorem ba_list (l : List UInt8) : (ByteArray.mk l.toArray).data.toList = l := rfl
theorem ba_size (l : List UInt8) : (ByteArray.mk l.toArray).size = l.length := by simp [ByteArray.size]
theorem pre_one (l : List UInt8) (c : UInt8) : hasPrefix l [c] = (l.head? == some c) := by
  cases l with
  | nil => rfl
  | cons a l => simp [hasPrefix, List.isPrefixOf, Bool.beq_comm]
theorem suf_one (l : List UInt8) (c : UInt8) : hasSuffix l [c] = (l.getLast? == some c) := by
  unfold hasSuffix List.isSuffixOf
  rw [List.getLast?_eq_head?_reverse]
  exact pre_one l.reverse c
theorem hasPrefix_any (l : List UInt8) (c : UInt8) (w : World) : Calls Tryz.prog 88 #[S l, .string ⟨#[c]⟩] w fun e w' => e = .returned (.bool (l.head? == some c)) ∧ w' = w := by
  have h := Tryz.strings_HasPrefix ⟨l.toArray⟩ ⟨#[c]⟩ w
  rw [ba_list, show (ByteArray.mk #[c]).data.toList = [c] from rfl, pre_one] at h
  exact h
theorem hasSuffix_any (l : List UInt8) (c : UInt8) (w : World) (hl : l.length ≤ 9223372036854775807) : Calls Tryz.prog 118 #[S l, .string ⟨#[c]⟩] w fun e w' => e = .returned (.bool (l.getLast? == some c)) ∧ w' = w := by
  have h := Tryz.strings_HasSuffix ⟨l.toArray⟩ ⟨#[c]⟩ w (by rw [ba_size]; exact hl)
  rw [ba_list, show (ByteArray.mk #[c]).data.toList = [c] from rfl, suf_one] at h
  exact h
set_option maxHeartbeats 2000000 in
theorem isMethod_any (s : Bs) (w : World) (hs : s.length ≤ 9223372036854775807) : Calls Tryz.prog 62 #[S s] w fun e w' => e = .returned (.bool (meth s)) ∧ w' = w := by
  have HA := hide (all87_any s w hs)
  have HX : Hid (meth s = (decide (1 ≤ s.length ∧ s.length ≤ 16) && s.all up)) := hide rfl
  generalize s.all up = A at *
  generalize meth s = X at *
  by_cases h1 : 1 ≤ s.length
  · have i1 : (1 : Int) ≤ (s.length : Int) := by omega
    by_cases h2 : s.length ≤ 16
    · have i2 : (s.length : Int) ≤ 16 := by omega
      go_enter Tryz.func62, Tryz.ntmps62
      go_wp2_with (go_at_call 86; refine (unhide HA).mono ?_; rintro e w' ⟨rfl, rfl⟩)
      go_ret
      refine ⟨ret_bool ?_, rfl⟩
      rw [unhide HX, decide_eq_true ⟨h1, h2⟩]
      simp
    · have i2 : ¬ (s.length : Int) ≤ 16 := by omega
      go_enter Tryz.func62, Tryz.ntmps62
      go_wp2
      go_ret
      refine ⟨ret_bool ?_, rfl⟩
      rw [unhide HX, decide_eq_false (by omega)]
      rfl
  · have i1 : ¬ (1 : Int) ≤ (s.length : Int) := by omega
    go_enter Tryz.func62, Tryz.ntmps62
    go_wp2
    go_ret
    refine ⟨ret_bool ?_, rfl⟩
    rw [unhide HX, decide_eq_false (by omega)]
    rfl
set_option maxHeartbeats 2000000 in
theorem isHeaderName_any (s : Bs) (w : World) (hs : s.length ≤ 9223372036854775807) : Calls Tryz.prog 104 #[S s] w fun e w' => e = .returned (.bool (hnm s)) ∧ w' = w := by
  have HA := hide (all117_any s w hs)
  have HX : Hid (hnm s = (decide (1 ≤ s.length ∧ s.length ≤ 40) && s.all nby)) := hide rfl
  generalize s.all nby = A at *
  generalize hnm s = X at *
  by_cases h1 : 1 ≤ s.length
  · have i1 : (1 : Int) ≤ (s.length : Int) := by omega
    by_cases h2 : s.length ≤ 40
    · have i2 : (s.length : Int) ≤ 40 := by omega
      go_enter Tryz.func104, Tryz.ntmps104
      go_wp2_with (go_at_call 86; refine (unhide HA).mono ?_; rintro e w' ⟨rfl, rfl⟩)
      go_ret
      refine ⟨ret_bool ?_, rfl⟩
      rw [unhide HX, decide_eq_true ⟨h1, h2⟩]
      simp
    · have i2 : ¬ (s.length : Int) ≤ 40 := by omega
      go_enter Tryz.func104, Tryz.ntmps104
      go_wp2
      go_ret
      refine ⟨ret_bool ?_, rfl⟩
      rw [unhide HX, decide_eq_false (by omega)]
      rfl
  · have i1 : ¬ (1 : Int) ≤ (s.length : Int) := by omega
    go_enter Tryz.func104, Tryz.ntmps104
    go_wp2
    go_ret
    refine ⟨ret_bool ?_, rfl⟩
    rw [unhide HX, decide_eq_false (by omega)]
    rfl
set_option maxHeartbeats 2000000 in
theorem isPath_any (s : Bs) (w : World) (hs : s.length ≤ 9223372036854775807) : Calls Tryz.prog 63 #[S s] w fun e w' => e = .returned (.bool (pth s)) ∧ w' = w := by
  have HA := hide (all89_any s w hs)
  have HP := hide (hasPrefix_any s 47 w)
  have HX : Hid (pth s = (decide (s.length ≤ 200) && s.head? == some 47 && s.all pby)) := hide rfl
  generalize s.all pby = A at *
  generalize (s.head? == some 47) = P at *
  generalize pth s = X at *
  by_cases h2 : s.length ≤ 200
  · have i2 : (s.length : Int) ≤ 200 := by omega
    cases P
    · go_enter Tryz.func63, Tryz.ntmps63
      go_wp2_with (first | (go_at_call 88; refine (unhide HP).mono ?_; rintro e w' ⟨rfl, rfl⟩) | (go_at_call 86; refine (unhide HA).mono ?_; rintro e w' ⟨rfl, rfl⟩))
      go_ret
      refine ⟨ret_bool ?_, rfl⟩
      rw [unhide HX]
      simp
    · go_enter Tryz.func63, Tryz.ntmps63
      go_wp2_with (first | (go_at_call 88; refine (unhide HP).mono ?_; rintro e w' ⟨rfl, rfl⟩) | (go_at_call 86; refine (unhide HA).mono ?_; rintro e w' ⟨rfl, rfl⟩))
      go_ret
      refine ⟨ret_bool ?_, rfl⟩
      rw [unhide HX, decide_eq_true h2]
      simp
  · have i2 : ¬ (s.length : Int) ≤ 200 := by omega
    go_enter Tryz.func63, Tryz.ntmps63
    go_wp2
    go_ret
    refine ⟨ret_bool ?_, rfl⟩
    rw [unhide HX, decide_eq_false h2]
    rfl
set_option maxHeartbeats 2000000 in
theorem isHeaderValue_any (s : Bs) (w : World) (hs : s.length ≤ 9223372036854775807) : Calls Tryz.prog 105 #[S s] w fun e w' => e = .returned (.bool (hvl s)) ∧ w' = w := by
  have HA := hide (all96_any s w hs)
  have HP := hide (hasPrefix_any s 32 w)
  have HQ := hide (hasSuffix_any s 32 w hs)
  have HX : Hid (hvl s = (s.all shn && !(s.head? == some 32) && !(s.getLast? == some 32))) := hide rfl
  generalize s.all shn = A at *
  generalize (s.head? == some 32) = P at *
  generalize (s.getLast? == some 32) = Q at *
  generalize hvl s = X at *
  cases A
  · go_enter Tryz.func105, Tryz.ntmps105
    go_wp2_with (first | (go_at_call 86; refine (unhide HA).mono ?_; rintro e w' ⟨rfl, rfl⟩))
    go_ret
    exact ⟨ret_bool (by rw [unhide HX]; rfl), rfl⟩
  · cases P
    · go_enter Tryz.func105, Tryz.ntmps105
      go_wp2_with (first | (go_at_call 88; refine (unhide HP).mono ?_; rintro e w' ⟨rfl, rfl⟩) | (go_at_call 86; refine (unhide HA).mono ?_; rintro e w' ⟨rfl, rfl⟩) | (go_at_call 118; refine (unhide HQ).mono ?_; rintro e w' ⟨rfl, rfl⟩))
      go_ret
      exact ⟨ret_bool (by rw [unhide HX]; simp), rfl⟩
    · go_enter Tryz.func105, Tryz.ntmps105
      go_wp2_with (first | (go_at_call 88; refine (unhide HP).mono ?_; rintro e w' ⟨rfl, rfl⟩) | (go_at_call 86; refine (unhide HA).mono ?_; rintro e w' ⟨rfl, rfl⟩))
      go_ret
      exact ⟨ret_bool (by rw [unhide HX]; rfl), rfl⟩
def stat (n : Int) : Bool := decide (100 ≤ n ∧ n ≤ 599)
set_option maxHeartbeats 2000000 in
theorem isStatus_any (n : Int) (w : World) : Calls Tryz.prog 66 #[.int .i64 n] w fun e w' => e = .returned (.bool (stat n)) ∧ w' = w := by
  unfold stat
  by_cases h1 : 100 ≤ n
  · by_cases h2 : n ≤ 599
    · go_enter Tryz.func66, Tryz.ntmps66
      go_wp2
      go_ret
      exact ⟨ret_bool (by simp [h1, h2]), rfl⟩
    · go_enter Tryz.func66, Tryz.ntmps66
      go_wp2
      go_ret
      exact ⟨ret_bool (by simp [h2]), rfl⟩
  · go_enter Tryz.func66, Tryz.ntmps66
    go_wp2
    go_ret
    exact ⟨ret_bool (by simp; omega), rfl⟩
theorem num_zero : num [48] = true := by decide
set_option maxHeartbeats 2000000 in
set_option maxRecDepth 8000 in
theorem isNumber_any (s : Bs) (w : World) (hs : s.length ≤ 9223372036854775807) : Calls Tryz.prog 95 #[S s] w fun e w' => e = .returned (.bool (num s)) ∧ w' = w := by
  have HA := hide (all109_any s w hs)
  have HX : Hid (num s = (s == [48] || (!(s == []) && !(s.head? == some 48) && s.all dgt))) := hide rfl
  match s with
  | [] =>
    clear HA
    go_enter Tryz.func95, Tryz.ntmps95
    go_wp2
    go_ret
    exact ⟨ret_bool (by rw [unhide HX]; rfl), rfl⟩
  | c :: l =>
    by_cases h0 : c :: l = [48]
    · cases h0
      clear HA
      go_enter Tryz.func95, Tryz.ntmps95
      go_wp2
      go_ret
      exact ⟨ret_bool num_zero.symm, rfl⟩
    · have hne : (c :: l == [48]) = false := by simpa using h0
      have hsz : 0 < (ByteArray.mk (c :: l).toArray).size := by simp [ByteArray.size]
      have hC : (ByteArray.mk (c :: l).toArray)[0]'hsz = c := rfl
      have hln : (0 : Int) < ((c :: l).length : Nat) := by simp
      by_cases hc : c = 48
      · subst hc
        have HX2 := hide (show num (48 :: l) = false by rw [unhide HX, hne]; simp)
        clear HX HA
        go_enter Tryz.func95, Tryz.ntmps95
        go_wp2
        go_ret
        exact ⟨ret_bool (unhide HX2).symm, rfl⟩
      · have hc1 : ¬ (c.toNat : Int) = 48 := toNat_ne hc
        have HX2 := hide (show num (c :: l) = (c :: l).all dgt by rw [unhide HX, hne]; simp [hc])
        clear HX
        generalize (c :: l).all dgt = A at *
        go_enter Tryz.func95, Tryz.ntmps95
        go_wp2_with (go_at_call 86; refine (unhide HA).mono ?_; rintro e w' ⟨rfl, rfl⟩)
        go_ret
        refine ⟨ret_bool ?_, rfl⟩
        rw [unhide HX2]
        simp [hc1]
end Go.Proofs.YthlacailhfhjnaaGreatDoor
namespace Go.Proofs.YthlacailhfhjnaaGreatDoor
open Go.RowKit Go.Lib
def fl0 : Fl := ([], [])
/-- Fields, one behind the other in memory. -/
def Fls (w : World) (a : Option Addr) (n : Nat) (fs : List Fl) : Prop :=
  n = fs.length ∧ (0 < n → ∃ p o, a = some ⟨p, o, none⟩ ∧ ∀ j, j < n → w.cell? ⟨p, o + j * 2, none⟩ = some (S (fs.getD j fl0).1) ∧ w.cell? ⟨p, o + j * 2 + 1, none⟩ = some (S (fs.getD j fl0).2))
theorem blk_lt {w : World} {p o : Nat} {v : Value} (h : w.cell? ⟨p, o, none⟩ = some v) : p < w.heap.size := by
  rcases Nat.lt_or_ge p w.heap.size with h' | h'
  · exact h'
  · simp [World.cell?, Array.getElem?_eq_none h'] at h
theorem Fls.at {w : World} {a : Option Addr} {n : Nat} {fs : List Fl} (h : Fls w a n fs) {j : Nat} (hj : j < n) : ∃ p o, a = some ⟨p, o, none⟩ ∧ p < w.heap.size ∧ w.cell? ⟨p, o + j * 2, none⟩ = some (S (fs.getD j fl0).1) ∧ w.cell? ⟨p, o + j * 2 + 1, none⟩ = some (S (fs.getD j fl0).2) := by
  obtain ⟨p, o, e, hc⟩ := h.2 (by omega)
  exact ⟨p, o, e, blk_lt (hc j hj).1, hc j hj⟩
theorem Fls.nil (w : World) (a : Option Addr) : Fls w a 0 [] := ⟨rfl, fun h => absurd h (Nat.lt_irrefl 0)⟩
theorem Fls.below {w w' : World} {a : Option Addr} {n : Nat} {fs : List Fl} (h : Fls w a n fs) (hb : Below w.heap.size w w') : Fls w' a n fs := by
  refine ⟨h.1, fun hn => ?_⟩
  obtain ⟨p, o, e, hc⟩ := h.2 hn
  exact ⟨p, o, e, fun j hj => ⟨(hb.cell (by exact blk_lt (hc j hj).1)).trans (hc j hj).1, (hb.cell (by exact blk_lt (hc j hj).2)).trans (hc j hj).2⟩⟩
theorem below_dN {B : Nat} {a w : World} (h : Below B a w) (n : Nat) : Below B a (w.drewN n) := h.trans ⟨rfl, rfl, rfl, Nat.le_refl _, fun _ _ => rfl⟩
def Lens (fs : List Fl) : Prop := ∀ j, (fs.getD j fl0).1.length ≤ 140737488351232 ∧ (fs.getD j fl0).2.length ≤ 140737488351232
set_option maxHeartbeats 4000000 in
set_option maxRecDepth 8000 in
theorem isHeader_any (f : Fl) (w : World) (h1 : f.1.length ≤ 140737488351232) (h2 : f.2.length ≤ 140737488351232) : Calls Tryz.prog 90 #[.agg #[S f.1, S f.2]] w fun e w' => e = .returned (.bool (hdr f)) ∧ Below w.heap.size w w' := by
  obtain ⟨n, v⟩ := f
  simp only at h1 h2 ⊢
  have HN := hide (fun W => isHeaderName_any n W (by omega))
  have HV := hide (fun W => isHeaderValue_any v W (by omega))
  have HC := hide (fun W => alike_any n CL W (by omega))
  have HT := hide (fun W => alike_any n TE W (by omega))
  have HX : Hid (hdr (n, v) = (decide (n.length + 2 + v.length ≤ 1000) && hnm n && hvl v && !alk n CL && !alk n TE)) := hide rfl
  generalize hdr (n, v) = X at *
  generalize hnm n = A at *
  generalize hvl v = B1 at *
  generalize alk n CL = C at *
  generalize alk n TE = D at *
  by_cases hl : n.length + 2 + v.length ≤ 1000
  · have il : (n.length : Int) + 2 + (v.length : Int) ≤ 1000 := by omega
    rw [decide_eq_true hl] at HX
    cases A
    · go_enter Tryz.func90, Tryz.ntmps90
      go_wp2_with (first | (go_at_call 104; refine (unhide HN _).mono ?_; rintro e w' ⟨rfl, rfl⟩))
      go_ret
      exact ⟨ret_bool (by rw [unhide HX]; rfl), (Below.refl _ _).alloc (Nat.le_refl _) _⟩
    cases B1
    · go_enter Tryz.func90, Tryz.ntmps90
      go_wp2_with (first | (go_at_call 104; refine (unhide HN _).mono ?_; rintro e w' ⟨rfl, rfl⟩) | (go_at_call 105; refine (unhide HV _).mono ?_; rintro e w' ⟨rfl, rfl⟩))
      go_ret
      exact ⟨ret_bool (by rw [unhide HX]; rfl), (Below.refl _ _).alloc (Nat.le_refl _) _⟩
    cases C
    · go_enter Tryz.func90, Tryz.ntmps90
      go_wp2_with (first | (go_at_call 104; refine (unhide HN _).mono ?_; rintro e w' ⟨rfl, rfl⟩) | (go_at_call 105; refine (unhide HV _).mono ?_; rintro e w' ⟨rfl, rfl⟩))
      go_wp2_with fail
      refine (unhide HC _).mono ?_
      rintro e w1 ⟨rfl, q, rfl⟩
      go_wp2_with fail
      refine (unhide HT _).mono ?_
      rintro e w1 ⟨rfl, q2, rfl⟩
      go_wp2
      go_ret
      exact ⟨ret_bool (by rw [unhide HX]; simp), below_dN ((Below.refl _ _).alloc (Nat.le_refl _) _) _⟩
    · go_enter Tryz.func90, Tryz.ntmps90
      go_wp2_with (first | (go_at_call 104; refine (unhide HN _).mono ?_; rintro e w' ⟨rfl, rfl⟩) | (go_at_call 105; refine (unhide HV _).mono ?_; rintro e w' ⟨rfl, rfl⟩))
      go_wp2_with fail
      refine (unhide HC _).mono ?_
      rintro e w1 ⟨rfl, q, rfl⟩
      go_wp2
      go_ret
      exact ⟨ret_bool (by rw [unhide HX]; rfl), below_dN ((Below.refl _ _).alloc (Nat.le_refl _) _) _⟩
  · have il : ¬ (n.length : Int) + 2 + (v.length : Int) ≤ 1000 := by omega
    rw [decide_eq_false hl] at HX
    go_enter Tryz.func90, Tryz.ntmps90
    go_wp2
    go_ret
    exact ⟨ret_bool (by rw [unhide HX]; rfl), (Below.refl _ _).alloc (Nat.le_refl _) _⟩
theorem flw_many {hs : List Fl} {b : Bs} (h : 32 < hs.length) : flw hs b = false := by
  unfold flw; rw [decide_eq_false (by omega)]; rfl
theorem flw_long {hs : List Fl} {b : Bs} (h : 4000 < b.length) : flw hs b = false := by
  unfold flw; rw [decide_eq_false (by omega)]; rfl
theorem flw_no {hs : List Fl} {b : Bs} (k : Nat) (h : k < hs.length) (hh : hdr (hs.getD k fl0) = false) : flw hs b = false := by
  have e : hs.getD k fl0 = hs[k] := by simp [h]
  rw [e] at hh
  unfold flw
  have : hs.all hdr = false := by
    rw [Bool.eq_false_iff]
    intro q
    rw [List.all_eq_true] at q
    rw [q _ (List.getElem_mem h)] at hh
    cases hh
  rw [this]; simp
theorem flw_yes {hs : List Fl} {b : Bs} (h1 : hs.length ≤ 32) (h2 : b.length ≤ 4000) (hh : ∀ k, k < hs.length → hdr (hs.getD k fl0) = true) : flw hs b = true := by
  unfold flw
  rw [decide_eq_true ⟨h1, h2⟩]
  have : hs.all hdr = true := by
    rw [List.all_eq_true]
    intro f hf
    obtain ⟨k, hk, rfl⟩ := List.mem_iff_getElem.1 hf
    have := hh k hk
    simpa [hk] using this
  rw [this]; rfl
set_option maxHeartbeats 4000000 in
set_option maxRecDepth 8000 in
theorem mayFollow_any (a : Option Addr) (n cap : Nat) (fs : List Fl) (b : Bs) (w : World) (hp : Fls w a n fs) (hL : Lens fs) (hn : n ≤ 140737488351232) (hb : b.length ≤ 9223372036854775807) :
    Calls Tryz.prog 64 #[.slice a n cap, S b] w fun e w' => e = .returned (.bool (flw fs b)) ∧ Below w.heap.size w w' := by
  have HP := hide hp
  have HN := hide hp.1
  clear hp
  by_cases h1 : 32 < n
  · have HX := hide (flw_many (b := b) (by have := unhide HN; omega : 32 < fs.length))
    have i1 : (32 : Int) < (n : Int) := by omega
    go_enter Tryz.func64, Tryz.ntmps64
    go_wp2
    go_ret
    exact ⟨ret_bool (unhide HX).symm, Below.refl _ _⟩
  · have i1 : ¬ (32 : Int) < (n : Int) := by omega
    by_cases h2 : 4000 < b.length
    · have HX := hide (flw_long (hs := fs) h2)
      have i2 : (4000 : Int) < (b.length : Int) := by omega
      go_enter Tryz.func64, Tryz.ntmps64
      go_wp2
      go_ret
      exact ⟨ret_bool (unhide HX).symm, Below.refl _ _⟩
    · have i2 : ¬ (4000 : Int) < (b.length : Int) := by omega
      go_enter Tryz.func64, Tryz.ntmps64
      go_wp2
      go_loopw [17] (fun i wr => ∃ k : Nat, k ≤ n ∧ i = .int .i64 k ∧ (∀ j, j < k → hdr (fs.getD j fl0) = true) ∧ Below w.heap.size w wr) (fun i _ => n - (Go.RowKit.intOf i).toNat)
      case atStart => exact ⟨0, by omega, rfl, fun j h => absurd h (Nat.not_lt_zero j), Below.refl _ _⟩
      case round =>
        obtain ⟨k, hk, rfl, hq, hbr⟩ := hrel
        have HQ := hide hq
        clear hq
        by_cases hlt : k < n
        · obtain ⟨p, o, rfl, hpl, hc0, hc1⟩ := ((unhide HP).below hbr).at hlt
          have hlt' : (k : Int) < (n : Int) := by omega
          have HF := hide (fun h => flw_no (hs := fs) (b := b) k (by have := unhide HN; omega) h)
          have HS := hide (fun (h : hdr (fs.getD k fl0) = true) (j : Nat) (h3 : j < k + 1) => (show hdr (fs.getD j fl0) = true by
            by_cases e : j = k
            · subst e; exact h
            · exact unhide HQ j (by omega)))
          have hl := hL k
          have HH := hide (fun W => isHeader_any (fs.getD k fl0) W hl.1 hl.2)
          have hb2 := hide (hbr.alloc (o := Obj.cells #[S (fs.getD k fl0).1, S (fs.getD k fl0).2] 35) hbr.size)
          clear HQ hl
          generalize fs.getD k fl0 = F at *
          obtain ⟨fn, fv⟩ := F
          simp only at hc0 hc1
          generalize hdr (fn, fv) = H at *
          cases H
          · have HF2 := hide (unhide HF rfl)
            clear HF HS
            go_wp2_with fail
            refine (unhide HH _).mono ?_
            rintro e w3 ⟨rfl, b3⟩
            have hb3 := hide ((unhide hb2).trans (b3.mono (unhide hb2).size))
            go_wp2
            go_ret
            exact ⟨ret_bool (unhide HF2).symm, unhide hb3⟩
          · have HS2 := hide (unhide HS rfl)
            clear HF HS
            go_wp2_with fail
            refine (unhide HH _).mono ?_
            rintro e w3 ⟨rfl, b3⟩
            have hb3 := hide ((unhide hb2).trans (b3.mono (unhide hb2).size))
            go_wp2
            refine ⟨⟨k + 1, by omega, by go_num, unhide HS2, unhide hb3⟩, ?_⟩
            simp [Go.RowKit.intOf]; omega
        · have hd : decide (k < n) = false := by simp; omega
          have HX := hide (flw_yes (b := b) (by have := unhide HN; omega) (by omega) (fun j hj => unhide HQ j (by have := unhide HN; omega)))
          clear HQ
          go_wp2
          go_ret
          exact ⟨ret_bool (unhide HX).symm, hbr⟩
end Go.Proofs.YthlacailhfhjnaaGreatDoor
namespace Go.Proofs.YthlacailhfhjnaaGreatDoor
open Go.RowKit Go.Lib
theorem hd_tl (c : UInt8) (p : List UInt8) : (c ∉ p ∧ hd c p = p ∧ tl c p = []) ∨ (p = hd c p ++ c :: tl c p) := by
  unfold hd tl
  induction p with
  | nil => left; simp
  | cons a p ih =>
    by_cases h : a = c
    · subst h; right; simp
    · rcases ih with ⟨h1, h2, h3⟩ | h2
      · left
        refine ⟨by simp [h1, Ne.symm h], ?_, ?_⟩
        · simp [h, h2]
        · simp [h, h3]
      · right
        have : (!(a == c)) = true := by simp [h]
        rw [List.takeWhile_cons, List.dropWhile_cons, if_pos this, if_pos this, List.cons_append, ← h2]
theorem tl_drop (c : UInt8) (s : List UInt8) (hl : (hd c s).length < s.length) : tl c s = s.drop ((hd c s).length + 1) := by
  rcases hd_tl c s with ⟨_, h1, _⟩ | h
  · rw [h1] at hl; omega
  · have h9 : ∀ (a b : List UInt8), (a ++ c :: b).drop (a.length + 1) = b := fun a b => by
      rw [List.drop_append, List.drop_of_length_le (by omega)]
      simp
    have := h9 (hd c s) (tl c s)
    rw [← h] at this
    exact this.symm
theorem hd_take (c : UInt8) (s : List UInt8) : s.take (hd c s).length = hd c s := by
  rcases hd_tl c s with ⟨_, h1, _⟩ | h
  · rw [h1, List.take_length]
  · have h9 : ∀ (a b : List UInt8), (a ++ c :: b).take a.length = a := fun a b => by simp
    have := h9 (hd c s) (tl c s)
    rw [← h] at this
    exact this
theorem hd_le (c : UInt8) (s : List UInt8) : (hd c s).length ≤ s.length := List.Sublist.length_le (List.takeWhile_sublist _)
theorem indexByte_hd (p : List UInt8) (c : UInt8) : indexByte p c = if (hd c p).length < p.length then ((hd c p).length : Int) else -1 := by
  induction p with
  | nil => simp [indexByte, hd]
  | cons a p ih =>
    unfold indexByte
    by_cases h : a = c
    · subst h
      simp [hd]
    · have h1 : (a == c) = false := by simpa using h
      have h2 : hd c (a :: p) = a :: hd c p := by simp [hd, h]
      rw [h1, ih, h2]
      simp only [Bool.false_eq_true, if_false, List.length_cons]
      split
      · rw [if_neg (by simp), if_pos (by omega)]
        omega
      · rw [if_pos (by simp), if_neg (by omega)]
set_option maxHeartbeats 4000000 in
set_option maxRecDepth 8000 in
theorem cutlite_any (l : List UInt8) (c : UInt8) (w : World) (hl : l.length ≤ 1099511627776) :
    Calls Tryz.prog 98 #[S l, .string ⟨#[c]⟩] w fun e w' => e = .returned (.tuple #[S (hd c l), S (tl c l), .bool (decide ((hd c l).length < l.length))]) ∧ ∃ n, w' = w.drewN n := by
  obtain ⟨X, hX⟩ : ∃ X : ByteArray, X = ⟨l.toArray⟩ := ⟨_, rfl⟩
  have hsz : X.size = l.length := by rw [hX]; simp [ByteArray.size]
  have hdl : X.data.toList = l := by rw [hX]
  have hxe : ∀ a b, X.extract a b = ⟨((l.drop a).take (b - a)).toArray⟩ := by
    intro a b
    subst hX
    rw [extract_eq]
  have HI := hide (Tryz.stringslite_Index_one X c w)
  rw [hdl, indexByte_hd] at HI
  show Calls Tryz.prog 98 #[.string ⟨l.toArray⟩, .string ⟨#[c]⟩] w _
  rw [← hX]
  by_cases hm : (hd c l).length < l.length
  · rw [if_pos hm] at HI
    rw [decide_eq_true hm]
    have e1 : Hid (X.extract 0 (hd c l).length = ⟨(hd c l).toArray⟩) := hide (by rw [hxe, List.drop_zero, Nat.sub_zero, hd_take])
    have e2 : Hid (X.extract ((hd c l).length + 1) l.length = ⟨(tl c l).toArray⟩) := hide (by rw [hxe, tl_drop c l hm, List.take_of_length_le (by simp)])
    generalize hd c l = H at *
    generalize tl c l = T at *
    have i0 : (0 : Int) ≤ (H.length : Int) := by omega
    have i1 : (H.length : Int) ≤ (l.length : Int) := by omega
    have i2 : (0 : Int) ≤ (H.length : Int) + 1 := by omega
    have i3 : (H.length : Int) + 1 ≤ (l.length : Int) := by omega
    clear hxe hdl hX
    go_enter Tryz.func98, Tryz.ntmps98
    go_wp2_with fail
    refine (unhide HI).mono ?_
    rintro e w' ⟨rfl, rfl⟩
    go_wp2_with fail
    go_quiet (fail)
    go_wp2
    go_ret3
    refine ⟨?_, _, rfl⟩
    show Ending.returned (.tuple #[.string (X.extract 0 H.length), .string (X.extract (H.length + 1) l.length), .bool true]) = _
    rw [unhide e1, unhide e2]
  · rw [if_neg hm] at HI
    rw [decide_eq_false hm]
    have hh : hd c l = l ∧ tl c l = [] := by
      rcases hd_tl c l with ⟨_, h1, h2⟩ | h1
      · exact ⟨h1, h2⟩
      · have h2 := congrArg List.length h1
        rw [List.length_append, List.length_cons] at h2
        exact absurd (show (hd c l).length < l.length by omega) hm
    rw [hh.1, hh.2]
    have hX2 := hide hX
    clear hxe hdl hX hh hm
    go_enter Tryz.func98, Tryz.ntmps98
    go_wp2_with fail
    refine (unhide HI).mono ?_
    rintro e w' ⟨rfl, rfl⟩
    go_wp2
    go_ret3
    refine ⟨?_, 0, rfl⟩
    rw [unhide hX2]
    rfl
theorem cut_any (l : List UInt8) (c : UInt8) (w : World) (hl : l.length ≤ 1099511627776) :
    Calls Tryz.prog 75 #[S l, S [c]] w fun e w' => e = .returned (.tuple #[S (hd c l), S (tl c l), .bool (decide ((hd c l).length < l.length))]) ∧ ∃ n, w' = w.drewN n := by
  have H := hide (cutlite_any l c w hl)
  go_enter Tryz.func75, Tryz.ntmps75
  go_wp2_with fail
  refine (unhide H).mono ?_
  rintro e w' ⟨rfl, q, rfl⟩
  go_wp2
  go_ret3
  exact ⟨rfl, q, rfl⟩
theorem trim_any (l : List UInt8) (w : World) (hl : l.length ≤ 9223372036854775807) : Calls Tryz.prog 135 #[S l, .string ⟨#[32]⟩] w fun e w' => e = .returned (S (trimB l 32)) ∧ ∃ n, w' = w.drewN n := by
  refine (Tryz.strings_Trim_one ⟨l.toArray⟩ 32 (by decide) w (by rw [ba_size]; exact hl)).mono ?_
  rintro e w' ⟨rfl, h⟩
  refine ⟨rfl, ?_⟩
  rcases h with rfl | rfl
  · exact ⟨0, rfl⟩
  · exact ⟨1, rfl⟩
theorem cutr_any (l : List UInt8) (w : World) (hl : l.length ≤ 9223372036854775807) : Calls Tryz.prog 113 #[S l, .string ⟨#[13]⟩] w fun e w' => e = .returned (.tuple #[S (cutr l), .bool (ret l)]) ∧ w' = w := by
  have h := Tryz.strings_CutSuffix ⟨l.toArray⟩ ⟨#[13]⟩ w (by rw [ba_size]; exact hl)
  rw [ba_list, show (ByteArray.mk #[13]).data.toList = [13] from rfl, suf_one] at h
  have e : trimSuffix l [13] = cutr l := by
    unfold trimSuffix cutr ret
    rw [suf_one]
    split
    · rw [List.dropLast_eq_take]; rfl
    · rfl
  rw [e] at h
  exact h
/-- Digits alone: what they say, or more than a number holds. -/
theorem parse_digits (l : List UInt8) (a : Nat) (hd : ∀ c ∈ l, dgt c = true) : parseUint10 a l = (if vl a l < 18446744073709551616 then .ok (vl a l) else .range) ∨ 18446744073709551616 ≤ a := by
  induction l generalizing a with
  | nil =>
    by_cases h : a < 18446744073709551616
    · left
      unfold parseUint10
      rw [if_pos (show vl a [] < _ from h)]
      rfl
    · right; omega
  | cons c l ih =>
    have hc := hd c List.mem_cons_self
    have hc' : 48 ≤ c.toNat ∧ c.toNat ≤ 57 := by unfold dgt at hc; simpa using hc
    have hm : ∀ (l : List UInt8) (a : Nat), a ≤ vl a l := by
      intro l
      induction l with
      | nil => intro a; exact Nat.le_refl _
      | cons c l ih =>
        intro a
        have := ih (a * 10 + (c.toNat - 48))
        show a ≤ vl (a * 10 + (c.toNat - 48)) l
        omega
    have e : vl a (c :: l) = vl (a * 10 + (c.toNat - 48)) l := rfl
    have h1 := hm l (a * 10 + (c.toNat - 48))
    left
    unfold parseUint10
    rw [if_pos hc', e]
    by_cases h2 : 1844674407370955162 ≤ a
    · rw [if_pos h2, if_neg (by omega)]
    · rw [if_neg h2]
      by_cases h3 : 18446744073709551616 ≤ a * 10 + (c.toNat - 48)
      · rw [if_pos h3, if_neg (by omega)]
      · rw [if_neg h3]
        rcases ih (a * 10 + (c.toNat - 48)) (fun x hx => hd x (List.mem_cons_of_mem _ hx)) with h | h
        · exact h
        · omega
theorem num_dgt {l : Bs} (h : num l = true) : l ≠ [] ∧ ∀ c ∈ l, dgt c = true := by
  unfold num at h
  simp only [Bool.or_eq_true, beq_iff_eq, Bool.and_eq_true, Bool.not_eq_true', beq_eq_false_iff_ne] at h
  rcases h with rfl | ⟨⟨h1, _⟩, h2⟩
  · exact ⟨by simp, by simp; decide⟩
  · exact ⟨h1, List.all_eq_true.1 h2⟩
theorem atoi_num (l : Bs) (h : num l = true) : atoiAll l = if vl 0 l < 9223372036854775808 then .ok (vl 0 l : Int) else .range := by
  obtain ⟨h1, h2⟩ := num_dgt h
  match l, h1, h2 with
  | c :: r, _, h2 =>
    have hc := h2 c List.mem_cons_self
    have hc' : 48 ≤ c.toNat ∧ c.toNat ≤ 57 := by unfold dgt at hc; simpa using hc
    unfold atoiAll
    simp only
    rw [if_neg (by omega)]
    unfold parseMag
    rw [if_neg (by simp)]
    rcases parse_digits (c :: r) 0 h2 with h | h
    · rw [h]
      generalize vl 0 (c :: r) = V
      by_cases hv : V < 18446744073709551616
      · rw [if_pos hv]
        simp only
        have hn : ¬ c.toNat = 45 := by omega
        by_cases h3 : V < 9223372036854775808
        · rw [if_pos h3, if_neg (by omega), if_neg (by omega), if_neg hn]
        · rw [if_neg h3, if_pos ⟨hn, by omega⟩]
      · rw [if_neg hv, if_neg (by omega)]
    · omega
end Go.Proofs.YthlacailhfhjnaaGreatDoor
namespace Go.Proofs.YthlacailhfhjnaaGreatDoor
open Go.RowKit Go.Lib
def opv : Option Fst → Value
  | none => .tuple #[.agg #[S [], S [], .int .i64 0], .bool false]
  | some f => .tuple #[.agg #[S f.m, S f.p, .int .i64 f.s], .bool true]
theorem opM_yes {l : Bs} (h1 : meth (hd 32 l) = true) (h2 : pth (hd 32 (tl 32 l)) = true) (h3 : tl 32 (tl 32 l) = vers) : opM l = some ⟨hd 32 l, hd 32 (tl 32 l), 0⟩ := by
  unfold opM; rw [h1, h2, h3]; rfl
theorem opM_no {l : Bs} (h : meth (hd 32 l) = false ∨ pth (hd 32 (tl 32 l)) = false ∨ tl 32 (tl 32 l) ≠ vers) : opM l = none := by
  unfold opM
  rcases h with h | h | h
  · rw [h]; simp
  · rw [h]; simp
  · rw [if_neg (by simp [h])]
theorem tl_le (c : UInt8) (s : Bs) : (tl c s).length ≤ s.length := by
  unfold tl
  rw [List.length_drop]
  have := List.Sublist.length_le (List.dropWhile_sublist (fun x => !(x == c)) (l := s))
  omega
theorem ret_of {a b : Value} (h : a = b) : Ending.returned b = .returned a := by rw [h]
set_option maxHeartbeats 4000000 in
set_option maxRecDepth 8000 in
theorem messageLine_any (l : Bs) (w : World) (hl : l.length ≤ 1099511627776) : Calls Tryz.prog 47 #[S l] w fun e w' => e = .returned (opv (opM l)) ∧ Below w.heap.size w w' := by
  have g1 := hd_le 32 l
  have g2 := tl_le 32 l
  have g3 := hd_le 32 (tl 32 l)
  have HC1 := hide (fun W => cut_any l 32 W hl)
  have HC2 := hide (fun W => cut_any (tl 32 l) 32 W (by omega))
  have HM := hide (fun W => isMethod_any (hd 32 l) W (by omega))
  have HP := hide (fun W => isPath_any (hd 32 (tl 32 l)) W (by omega))
  have HY := hide (@opM_yes l)
  have HN := hide (@opM_no l)
  generalize opM l = O at *
  generalize tl 32 (tl 32 l) = E at *
  generalize decide ((hd 32 (tl 32 l)).length < (tl 32 l).length) = d2 at *
  generalize hd 32 (tl 32 l) = P at *
  generalize decide ((hd 32 l).length < l.length) = d1 at *
  generalize tl 32 l = T at *
  generalize hd 32 l = M at *
  clear g1 g2 g3
  go_enter Tryz.func47, Tryz.ntmps47
  go_wp2_with fail
  refine (unhide HC1 _).mono ?_
  rintro e w1 ⟨rfl, q1, rfl⟩
  go_wp2_with fail
  refine (unhide HC2 _).mono ?_
  rintro e w1 ⟨rfl, q2, rfl⟩
  generalize meth M = A at *
  generalize pth P = B1 at *
  have fin : ∀ n, Below w.heap.size w ((w.alloc (.cells #[S [], S [], .int .i64 0] 89)).drewN n) := fun n => below_dN ((Below.refl _ _).alloc (Nat.le_refl _) _) _
  cases A
  · have HO := hide (unhide HN (.inl rfl))
    clear HN HY
    go_wp2_with (first | (go_at_call 62; refine (unhide HM _).mono ?_; rintro e w' ⟨rfl, rfl⟩))
    refine bodyPost_ret (v := .tuple #[.agg #[S [], S [], .int .i64 0], .bool false]) (by simp [results, Tryz.results47, go_sem]) rfl ⟨ret_of (by rw [unhide HO]; rfl), ?_⟩
    exact (((fin _).setCell (Nat.le_refl _) _).setCell (Nat.le_refl _) _).setCell (Nat.le_refl _) _
  cases B1
  · have HO := hide (unhide HN (.inr (.inl rfl)))
    clear HN HY
    go_wp2_with (first | (go_at_call 62; refine (unhide HM _).mono ?_; rintro e w' ⟨rfl, rfl⟩) | (go_at_call 63; refine (unhide HP _).mono ?_; rintro e w' ⟨rfl, rfl⟩))
    refine bodyPost_ret (v := .tuple #[.agg #[S [], S [], .int .i64 0], .bool false]) (by simp [results, Tryz.results47, go_sem]) rfl ⟨ret_of (by rw [unhide HO]; rfl), ?_⟩
    exact (((fin _).setCell (Nat.le_refl _) _).setCell (Nat.le_refl _) _).setCell (Nat.le_refl _) _
  by_cases hE : E = vers
  · have HO := hide (unhide HY rfl rfl hE)
    clear HN HY
    subst hE
    go_wp2_with (first | (go_at_call 62; refine (unhide HM _).mono ?_; rintro e w' ⟨rfl, rfl⟩) | (go_at_call 63; refine (unhide HP _).mono ?_; rintro e w' ⟨rfl, rfl⟩))
    refine bodyPost_ret (v := .tuple #[.agg #[S M, S P, .int .i64 0], .bool true]) (by simp [results, Tryz.results47, go_sem]) rfl ⟨ret_of (by rw [unhide HO]; rfl), ?_⟩
    exact (((fin _).setCell (Nat.le_refl _) _).setCell (Nat.le_refl _) _).setCell (Nat.le_refl _) _
  · have HO := hide (unhide HN (.inr (.inr hE)))
    have hE2 : (E == [72, 84, 84, 80, 47, 49, 46, 49]) = false := by simpa [vers] using hE
    clear HN HY
    go_wp2_with (first | (go_at_call 62; refine (unhide HM _).mono ?_; rintro e w' ⟨rfl, rfl⟩) | (go_at_call 63; refine (unhide HP _).mono ?_; rintro e w' ⟨rfl, rfl⟩))
    refine bodyPost_ret (v := .tuple #[.agg #[S [], S [], .int .i64 0], .bool false]) (by simp [results, Tryz.results47, go_sem]) rfl ⟨ret_of (by rw [unhide HO]; rfl), ?_⟩
    exact (((fin _).setCell (Nat.le_refl _) _).setCell (Nat.le_refl _) _).setCell (Nat.le_refl _) _
/-- What the library's variables hold. -/
structure Env (B : Nat) (w : World) : Prop where
  lt : 8 ≤ B
  le : B ≤ w.heap.size
  tab : ∃ T fz, w.heap[1]? = some (.cells (pow10Tab.map fun z => Value.int .u64 z).toArray T fz)
  rng : ∃ t p, w.cell? ⟨3, 0, none⟩ = some (.iface t p)
theorem Env.below {B : Nat} {w w' : World} (h : Env B w) (hb : Below B w w') : Env B w' := by
  obtain ⟨T, fz, h1⟩ := h.tab
  obtain ⟨t, p, h2⟩ := h.rng
  have := h.lt
  exact ⟨h.lt, Nat.le_trans h.le hb.size, ⟨T, fz, (hb.block 1 (by omega)).trans h1⟩, t, p, (hb.cell (by show 3 < B; omega)).trans h2⟩
theorem Env.tabIs {B : Nat} {w : World} (h : Env B w) : PowIs w := by
  obtain ⟨T, fz, h1⟩ := h.tab
  have hs : ((Tryz.prog.globals[1]?).map (fun g => g.name)).isSome = true := by kernel_rfl
  have hb : (((Tryz.prog.globals[1]?).map (fun g => g.name)).bind fun nm => Tryz.prog.globalNamed nm) = some 1 := by kernel_rfl
  obtain ⟨nm, hn⟩ := Option.isSome_iff_exists.1 hs
  rw [hn] at hb
  refine ⟨nm, hn, ?_⟩
  have hg : Tryz.prog.globalNamed nm = some 1 := hb
  unfold TabIs World.var?
  rw [hg]
  simp only [Option.bind_some, h1]
theorem Env.mono {B : Nat} {w : World} (h : Env B w) : Env w.heap.size w := ⟨Nat.le_trans h.lt h.le, Nat.le_refl _, h.tab, h.rng⟩
/-- Atoi of digits: the number, or some error. -/
theorem atoi_ok (l : Bs) (w : World) (hl : l.length ≤ 1099511627776) (hn : num l = true) (hv : vl 0 l < 9223372036854775808) :
    Calls Tryz.prog 97 #[S l] w fun e w' => e = .returned (.tuple #[.int .i64 (vl 0 l : Int), .nilIface]) ∧ Below w.heap.size w w' := by
  have h := atoi_num l hn
  rw [if_pos hv] at h
  refine (Tryz.strconv_Atoi_ok ⟨l.toArray⟩ (by rw [ba_size]; omega) _ (by rw [ba_list]; exact h) w).mono ?_
  rintro e w' ⟨rfl, hw⟩
  refine ⟨rfl, ?_⟩
  rcases hw with rfl | ⟨t, rfl⟩
  · exact Below.refl _ _
  · exact bytesWorld_below _ _ _
theorem atoi_no {B : Nat} (l : Bs) (w : World) (hE : Env B w) (hl : l.length ≤ 1099511627776) (hn : num l = true) (hv : ¬ vl 0 l < 9223372036854775808) :
    Calls Tryz.prog 97 #[S l] w fun e w' => ∃ x t p, e = .returned (.tuple #[.int .i64 x, .iface t p]) ∧ Below w.heap.size w w' := by
  have h := atoi_num l hn
  rw [if_neg hv] at h
  obtain ⟨t, p, hc⟩ := hE.rng
  refine (Tryz.strconv_Atoi_range ⟨l.toArray⟩ (by rw [ba_size]; omega) (by rw [ba_list]; exact h) _ w hc (.inr ⟨t, p, rfl⟩)).mono ?_
  rintro e w' ⟨M, rfl, _, _, hb⟩
  exact ⟨_, _, _, rfl, hb⟩
end Go.Proofs.YthlacailhfhjnaaGreatDoor
namespace Go.Proofs.YthlacailhfhjnaaGreatDoor
open Go.RowKit Go.Lib
def rsn (n : Int) : Bs :=
  if n = 200 then [79, 75] else
  if n = 201 then [67, 114, 101, 97, 116, 101, 100] else
  if n = 400 then [66, 97, 100, 32, 82, 101, 113, 117, 101, 115, 116] else
  if n = 401 then [85, 110, 97, 117, 116, 104, 111, 114, 105, 122, 101, 100] else
  if n = 403 then [70, 111, 114, 98, 105, 100, 100, 101, 110] else
  if n = 404 then [78, 111, 116, 32, 70, 111, 117, 110, 100] else
  if n = 405 then [77, 101, 116, 104, 111, 100, 32, 78, 111, 116, 32, 65, 108, 108, 111, 119, 101, 100] else
  if n = 415 then [85, 110, 115, 117, 112, 112, 111, 114, 116, 101, 100, 32, 77, 101, 100, 105, 97, 32, 84, 121, 112, 101] else
  if n = 429 then [84, 111, 111, 32, 77, 97, 110, 121, 32, 82, 101, 113, 117, 101, 115, 116, 115] else
  if n = 500 then [73, 110, 116, 101, 114, 110, 97, 108, 32, 83, 101, 114, 118, 101, 114, 32, 69, 114, 114, 111, 114] else
  if n = 503 then [83, 101, 114, 118, 105, 99, 101, 32, 85, 110, 97, 118, 97, 105, 108, 97, 98, 108, 101] else
  [83, 116, 97, 116, 117, 115]
set_option maxHeartbeats 4000000 in
set_option maxRecDepth 8000 in
theorem reason_any (n : Int) (w : World) : Calls Tryz.prog 68 #[.int .i64 n] w fun e w' => e = .returned (S (rsn n)) ∧ w' = w := by
  by_cases h0 : n = 200
  · subst h0
    go_enter Tryz.func68, Tryz.ntmps68
    go_wp2
    go_ret
    exact ⟨rfl, rfl⟩
  by_cases h1 : n = 201
  · subst h1
    go_enter Tryz.func68, Tryz.ntmps68
    go_wp2
    go_ret
    exact ⟨rfl, rfl⟩
  by_cases h2 : n = 400
  · subst h2
    go_enter Tryz.func68, Tryz.ntmps68
    go_wp2
    go_ret
    exact ⟨rfl, rfl⟩
  by_cases h3 : n = 401
  · subst h3
    go_enter Tryz.func68, Tryz.ntmps68
    go_wp2
    go_ret
    exact ⟨rfl, rfl⟩
  by_cases h4 : n = 403
  · subst h4
    go_enter Tryz.func68, Tryz.ntmps68
    go_wp2
    go_ret
    exact ⟨rfl, rfl⟩
  by_cases h5 : n = 404
  · subst h5
    go_enter Tryz.func68, Tryz.ntmps68
    go_wp2
    go_ret
    exact ⟨rfl, rfl⟩
  by_cases h6 : n = 405
  · subst h6
    go_enter Tryz.func68, Tryz.ntmps68
    go_wp2
    go_ret
    exact ⟨rfl, rfl⟩
  by_cases h7 : n = 415
  · subst h7
    go_enter Tryz.func68, Tryz.ntmps68
    go_wp2
    go_ret
    exact ⟨rfl, rfl⟩
  by_cases h8 : n = 429
  · subst h8
    go_enter Tryz.func68, Tryz.ntmps68
    go_wp2
    go_ret
    exact ⟨rfl, rfl⟩
  by_cases h9 : n = 500
  · subst h9
    go_enter Tryz.func68, Tryz.ntmps68
    go_wp2
    go_ret
    exact ⟨rfl, rfl⟩
  by_cases h10 : n = 503
  · subst h10
    go_enter Tryz.func68, Tryz.ntmps68
    go_wp2
    go_ret
    exact ⟨rfl, rfl⟩
  have e : rsn n = [83, 116, 97, 116, 117, 115] := by
    unfold rsn
    rw [if_neg h0, if_neg h1, if_neg h2, if_neg h3, if_neg h4, if_neg h5, if_neg h6, if_neg h7, if_neg h8, if_neg h9, if_neg h10]
  rw [e]
  clear e
  go_enter Tryz.func68, Tryz.ntmps68
  go_wp2
  go_ret
  exact ⟨rfl, rfl⟩
def okR (l : Bs) : Bool := l.all shn && decide (l.length ≤ 30)
theorem rsn_ok (n : Int) : okR (rsn n) = true := by
  by_cases h0 : n = 200
  · subst h0; decide
  by_cases h1 : n = 201
  · subst h1; decide
  by_cases h2 : n = 400
  · subst h2; decide
  by_cases h3 : n = 401
  · subst h3; decide
  by_cases h4 : n = 403
  · subst h4; decide
  by_cases h5 : n = 404
  · subst h5; decide
  by_cases h6 : n = 405
  · subst h6; decide
  by_cases h7 : n = 415
  · subst h7; decide
  by_cases h8 : n = 429
  · subst h8; decide
  by_cases h9 : n = 500
  · subst h9; decide
  by_cases h10 : n = 503
  · subst h10; decide
  unfold rsn
  rw [if_neg h0, if_neg h1, if_neg h2, if_neg h3, if_neg h4, if_neg h5, if_neg h6, if_neg h7, if_neg h8, if_neg h9, if_neg h10]
  decide
theorem rsn_shn (n : Int) : (rsn n).all shn = true ∧ (rsn n).length ≤ 30 := by
  have := rsn_ok n
  unfold okR at this
  simpa only [Bool.and_eq_true, decide_eq_true_eq] using this
theorem ba_append (a b : List UInt8) : (ByteArray.mk a.toArray ++ ByteArray.mk b.toArray) = ⟨(a ++ b).toArray⟩ := by
  apply ByteArray.ext
  simp
/-- A builder that holds a text. -/
def Bd (B b : Nat) (l : Bs) (w : World) : Prop := IsBuilderF 122 5 B b (byteCells l) w
theorem write_any (B b : Nat) (acc s : Bs) (w : World) (h : Bd B b acc w) (hl : acc.length + s.length ≤ 140737488355328) (hB : B ≤ w.heap.size) :
    Calls Tryz.prog 91 #[(.pointer (some ⟨b, 0, none⟩) : Value), S s] w fun e w' => e = .returned (.tuple #[.int .i64 s.length, .nilIface]) ∧ Bd B b (acc ++ s) w' ∧ Below B w w' ∧ OthersKept 5 (some b) w w' := by
  have hsz := ba_size s
  refine (Tryz.Builder_WriteString_k B b (byteCells acc) ⟨s.toArray⟩ w h (by rw [byteCells_length, hsz]; exact hl) hB).mono ?_
  rintro e w' ⟨rfl, h1, h2, h3⟩
  rw [hsz]
  refine ⟨rfl, ?_, h2, h3⟩
  unfold Bd
  rw [byteCells_append]
  have e : strCells ⟨s.toArray⟩ = byteCells s := by simp [strCells, byteCells]
  rw [e] at h1
  exact .inr h1
theorem itoa_any {B : Nat} (n : Nat) (w : World) (hE : Env B w) (hn : n ≤ 9223372036854775807) : Calls Tryz.prog 67 #[.int .i64 (n : Int)] w fun e w' => e = .returned (S (decDigits n)) ∧ Below w.heap.size w w' := by
  refine (Tryz.strconv_Itoa (n : Int) (by omega) (by omega) w hE.tabIs).mono ?_
  rintro e w' ⟨rfl, k, os, rfl⟩
  refine ⟨by rw [itoa_nonneg], ?_⟩
  refine (below_dN (Below.refl _ _) k).trans ⟨rfl, rfl, rfl, ?_, fun j hj => ?_⟩
  · simp [Go.Sort.grow]
  · simp only [Go.Sort.grow]
    exact Array.getElem?_append_left hj
end Go.Proofs.YthlacailhfhjnaaGreatDoor
namespace Go.Proofs.YthlacailhfhjnaaGreatDoor
open Go.RowKit Go.Lib
/-- Of the old blocks none but these may have turned. -/
structure Only (P : Nat → Prop) (w w' : World) : Prop where
  os : w'.os = w.os
  tape : w'.tape = w.tape
  output : w'.output = w.output
  size : w.heap.size ≤ w'.heap.size
  block : ∀ k, k < w.heap.size → ¬ P k → w'.heap[k]? = w.heap[k]?
theorem Only.refl (P : Nat → Prop) (w : World) : Only P w w := ⟨rfl, rfl, rfl, Nat.le_refl _, fun _ _ _ => rfl⟩
theorem Only.trans {P Q : Nat → Prop} {a b c : World} (h1 : Only P a b) (h2 : Only Q b c) (hq : ∀ k, k < a.heap.size → Q k → P k) : Only P a c :=
  ⟨h2.os.trans h1.os, h2.tape.trans h1.tape, h2.output.trans h1.output, Nat.le_trans h1.size h2.size, fun k hk hp => (h2.block k (Nat.lt_of_lt_of_le hk h1.size) (fun q => hp (hq k hk q))).trans (h1.block k hk hp)⟩
theorem Only.mono {P Q : Nat → Prop} {a b : World} (h : Only P a b) (hq : ∀ k, k < a.heap.size → P k → Q k) : Only Q a b := ⟨h.os, h.tape, h.output, h.size, fun k hk hp => h.block k hk (fun q => hp (hq k hk q))⟩
theorem Only.of_below {P : Nat → Prop} {w w' : World} (h : Below w.heap.size w w') : Only P w w' := ⟨h.os, h.tape, h.output, h.size, fun k hk _ => h.block k hk⟩
theorem Only.below {P : Nat → Prop} {a w w' : World} {base : Nat} (h : Only P w w') (hb : Below base a w) (hle : base ≤ w.heap.size) (hp : ∀ k, P k → base ≤ k) : Below base a w' :=
  hb.trans ⟨h.os, h.tape, h.output, h.size, fun k hk => h.block k (by omega) (fun q => by have := hp k q; omega)⟩
theorem Only.of_grown {w w' : World} {row : Option Nat} (h : w.grownBy w' row) : Only (fun k => row = some k) w w' := ⟨h.os, h.tape, h.output, h.size, fun k hk hp => h.block k hk (fun e => hp e.symm)⟩
theorem Only.drew (P : Nat → Prop) (w : World) : Only P w w.drew := ⟨rfl, rfl, rfl, Nat.le_refl _, fun _ _ _ => rfl⟩
theorem Only.drewN (P : Nat → Prop) (w : World) (n : Nat) : Only P w (w.drewN n) := ⟨rfl, rfl, rfl, Nat.le_refl _, fun _ _ _ => rfl⟩
theorem Only.alloc (P : Nat → Prop) (w : World) (o : Obj) : Only P w (w.alloc o) := Only.of_below ((Below.refl _ _).alloc (Nat.le_refl _) o)
theorem Only.setCell (w : World) (a : Addr) (v : Value) : Only (fun k => k = a.block) w (w.setCell a v) :=
  ⟨rfl, rfl, rfl, by simp [World.setCell], fun k _ hp => heap_setCell_other w a k v hp⟩
/-- One more cell of a block that may turn, or of a new one. -/
theorem Only.put {P : Nat → Prop} {w w' : World} (h : Only P w w') (a : Addr) (v : Value) (ha : P a.block ∨ w.heap.size ≤ a.block) : Only P w (w'.setCell a v) :=
  h.trans (Only.setCell w' a v) (fun k hk e => by subst e; rcases ha with q | q; exact q; omega)
theorem Only.more {P : Nat → Prop} {w w' : World} (h : Only P w w') (o : Obj) : Only P w (w'.alloc o) := h.trans (Only.alloc P w' o) (fun _ _ q => q)
theorem Env.only {P : Nat → Prop} {B : Nat} {w w' : World} (h : Env B w) (ho : Only P w w') (hp : ∀ k, P k → B ≤ k) : Env B w' :=
  h.below (ho.below (Below.refl _ _) h.le hp)
theorem lt_of_row {w : World} {b : Nat} {o : Obj} (h : w.heap[b]? = some o) : b < w.heap.size := (Array.getElem?_eq_some_iff.1 h).1
theorem owns_same {e n m : Nat} {w w' : World} {v : Value} {xs : List Value} (h : w.ownsRow 0 e n v m xs) (hb : ∀ k, v.ownBlock = some k → w'.heap[k]? = w.heap[k]?) : w'.ownsRow 0 e n v m xs := by
  refine ⟨h.1, ?_⟩
  rcases h.2 with q | ⟨g, cap, cur, e1, e2, e3, e4⟩
  · exact .inl q
  · exact .inr ⟨g, cap, cur, e1, e2, (hb g (by rw [e1]; rfl)).trans e3, e4⟩
theorem owns_lt {e n m : Nat} {w : World} {v : Value} {xs : List Value} (h : w.ownsRow 0 e n v m xs) : ∀ k, v.ownBlock = some k → ∃ cs, w.heap[k]? = some (.cells cs e (0, 0)) := by
  intro k hk
  rcases h.2 with ⟨e1, _⟩ | ⟨g, cap, cur, e1, e2, e3, e4⟩
  · rw [e1] at hk; cases hk
  · rw [e1] at hk
    cases hk
    exact ⟨cur, e3⟩
theorem owns_form {e n m : Nat} {w : World} {v : Value} {xs : List Value} (h : w.ownsRow 0 e n v m xs) : ∃ p cap, v = .slice p m cap := by
  rcases h.2 with ⟨e, q⟩ | ⟨g, cap, cur, e1, e2⟩
  · exact ⟨none, 0, by rw [e, q]⟩
  · exact ⟨_, cap, e1⟩
def cellsF (fs : List Fl) : List Value := fs.flatMap fun f => [S f.1, S f.2]
theorem cellsF_len (fs : List Fl) : (cellsF fs).length = fs.length * 2 := by
  unfold cellsF
  induction fs with
  | nil => rfl
  | cons f l ih => simp at ih ⊢; omega
theorem cellsF_append (a b : List Fl) : cellsF (a ++ b) = cellsF a ++ cellsF b := by simp [cellsF]
abbrev ptr (b : Nat) : Value := .pointer (some ⟨b, 0, none⟩)
def bdv (p : Ps) : Bs := if p.st = 3 then p.bd else []
def cellsP (op : Nat) (p : Ps) (nx hv : Value) : Array Value :=
  #[.int .i64 p.st, nx, Fn1 op, .int .i64 p.rd, S p.fs.m, S p.fs.p, .int .i64 p.fs.s, hv, .int .i64 p.len, S (bdv p)]
/-- A parser: its block, and its headers. -/
structure PAt (op P : Nat) (p : Ps) (nx hv : Value) (w : World) : Prop where
  blk : w.heap[P]? = some (.cells (cellsP op p nx hv) 91 (0, 0))
  hrow : w.ownsRow 0 35 2 hv p.hs.length (cellsF p.hs)
theorem PAt.cell {op P : Nat} {p : Ps} {nx hv : Value} {w : World} (h : PAt op P p nx hv w) (j : Nat) : w.cell? ⟨P, j, none⟩ = (cellsP op p nx hv)[j]? := cell_of_row w P j _ 91 (0, 0) h.blk
theorem PAt.fz {op P : Nat} {p : Ps} {nx hv : Value} {w : World} (h : PAt op P p nx hv w) (j : Nat) : w.frozen? ⟨P, j, none⟩ = false := frozen_of_row w P j _ 91 h.blk
theorem PAt.lt {op P : Nat} {p : Ps} {nx hv : Value} {w : World} (h : PAt op P p nx hv w) : P < w.heap.size := lt_of_row h.blk
theorem PAt.ne {op P : Nat} {p : Ps} {nx hv : Value} {w : World} (h : PAt op P p nx hv w) : hv.ownBlock ≠ some P := by
  intro e
  obtain ⟨cs, q⟩ := owns_lt h.hrow P e
  have := h.blk.symm.trans q
  simp at this
theorem PAt.keep {op P : Nat} {p : Ps} {nx hv : Value} {w w' : World} {O : Nat → Prop} (h : PAt op P p nx hv w) (ho : Only O w w') (hp : ¬ O P) (hh : ∀ k, hv.ownBlock = some k → ¬ O k) : PAt op P p nx hv w' :=
  ⟨(ho.block P h.lt hp).trans h.blk, owns_same h.hrow (fun k hk => by
    obtain ⟨cs, q⟩ := owns_lt h.hrow k hk
    exact ho.block k (lt_of_row q) (hh k hk))⟩
theorem PAt.below {op P : Nat} {p : Ps} {nx hv : Value} {w w' : World} (h : PAt op P p nx hv w) (hb : Below w.heap.size w w') : PAt op P p nx hv w' :=
  h.keep (Only.of_below (P := fun _ => False) hb) (fun q => q) (fun _ _ q => q)
/-- A cell of its block is set. -/
theorem PAt.set {op op' P : Nat} {p p' : Ps} {nx nx' hv : Value} {w : World} (h : PAt op P p nx hv w) (j : Nat) (x : Value) (e : (cellsP op p nx hv).setIfInBounds j x = cellsP op' p' nx' hv) (eh : p'.hs = p.hs) : PAt op' P p' nx' hv (w.setCell ⟨P, j, none⟩ x) := by
  refine ⟨?_, ?_⟩
  · rw [heap_setCell_same w P j _ 91 x h.blk, e]
  · rw [eh]
    exact owns_same h.hrow (fun k hk => heap_setCell_other w ⟨P, j, none⟩ k x (fun q => h.ne (by rw [hk, q])))
/-- What an answer leaves: the new state, or the old one where something is wrong. -/
def jr (r : Ps × Nat) (p : Ps) : Ps := if r.2 = 0 then r.1 else p
end Go.Proofs.YthlacailhfhjnaaGreatDoor
namespace Go.Proofs.YthlacailhfhjnaaGreatDoor
open Go.RowKit Go.Lib
theorem owns_base {b e n m : Nat} {w : World} {v : Value} {xs : List Value} (h : w.ownsRow b e n v m xs) : w.ownsRow 0 e n v m xs ∧ ∀ k, v.ownBlock = some k → b ≤ k := by
  constructor
  · refine ⟨h.1, ?_⟩
    rcases h.2 with q | ⟨g, cap, cur, e1, e2, e3, e4⟩
    · exact .inl q
    · exact .inr ⟨g, cap, cur, e1, Nat.zero_le _, e3, e4⟩
  · intro k hk
    rcases h.2 with ⟨e1, _⟩ | ⟨g, cap, cur, e1, e2, e3, e4⟩
    · rw [e1] at hk; cases hk
    · rw [e1] at hk; cases hk; exact e2
theorem makeRow {ops : Array Oper} {rest : List Oper} {o : Oper} {a : Act} {w : World} {Q : Exit → Act → World → Prop} (hgd : o.guard = none) (l c : Operand) (hop : o.op = Op.makeSlice 102 l c)
    (C : Int) (n : Nat) (hl : a.eval l = .int .i64 0) (hc : a.eval c = .int .i64 C) (hC : C = (n : Int)) (hn : n ≤ 140737488355328)
    (h : ∀ w' v, w'.ownsRow 0 5 1 v 0 [] → (∀ k, v.ownBlock = some k → w.heap.size ≤ k) → Below w.heap.size w w' → wpList Tryz.prog ops Q rest (a.put o.dst v) w') : wpList Tryz.prog ops Q (o :: rest) a w := by
  obtain ⟨i0, hi, hz0, hz1, hz2⟩ := info_parts info5
  refine wpList_make_own w hgd l c 102 hop w.heap.size 5 i0 (.int .u8 0) 1 Tryz.underlying102 hi hz0 hz1 .i64 .i64 C n hl hc hC (by rw [hz2]; omega) (by unfold maxLen; omega) (Nat.le_refl _) ?_
  intro w' ho hg
  exact h w' _ (owns_base ho).1 (owns_base ho).2 ((Below.refl _ _).grown hg (Nat.le_refl _) (fun k e => by cases e))
def nxt (st L Q Z : Nat) : Value := if st ≤ 1 then .func (.func 99) #[] #[ptr L, ptr Q] else .func (.func 148) #[] #[ptr L, ptr Z, ptr Q]
def cur (p : Ps) : Bs := if p.st ≤ 1 then p.ln else p.bd
/-- What a parser's closure has. -/
structure LAt (P : Nat) (p : Ps) (L Q Z : Nat) (v : Value) (w : World) : Prop where
  lb : w.heap[L]? = some (.cells #[v] 102 (0, 0))
  qb : w.heap[Q]? = some (.cells #[ptr P] 80 (0, 0))
  zb : p.st = 2 → w.heap[Z]? = some (.cells #[.int .i64 p.len] 3 (0, 0))
  row : w.ownsRow 0 5 1 v (cur p).length ((cur p).map B)
theorem LAt.keep {P : Nat} {p : Ps} {L Q Z : Nat} {v : Value} {w w' : World} {O : Nat → Prop} (h : LAt P p L Q Z v w) (ho : Only O w w') (hL : ¬ O L) (hQ : ¬ O Q) (hZ : ¬ O Z) (hv : ∀ k, v.ownBlock = some k → ¬ O k) : LAt P p L Q Z v w' :=
  ⟨(ho.block L (lt_of_row h.lb) hL).trans h.lb, (ho.block Q (lt_of_row h.qb) hQ).trans h.qb, fun q => (ho.block Z (lt_of_row (h.zb q)) hZ).trans (h.zb q), owns_same h.row (fun k hk => by
    obtain ⟨cs, q⟩ := owns_lt h.row k hk
    exact ho.block k (lt_of_row q) (hv k hk))⟩
set_option maxHeartbeats 4000000 in
set_option maxRecDepth 8000 in
theorem rest_any (P n : Nat) (w : World) (hn : n ≤ 4000) :
    Calls Tryz.prog 134 #[ptr P, .int .i64 n] w fun e w' => ∃ L Q Z v, e = .returned (nxt 2 L Q Z) ∧ w'.heap[L]? = some (.cells #[v] 102 (0, 0)) ∧ w'.heap[Q]? = some (.cells #[ptr P] 80 (0, 0)) ∧ w'.heap[Z]? = some (.cells #[.int .i64 n] 3 (0, 0)) ∧ w'.ownsRow 0 5 1 v 0 [] ∧ w.heap.size ≤ L ∧ w.heap.size ≤ Q ∧ w.heap.size ≤ Z ∧ (∀ k, v.ownBlock = some k → w.heap.size ≤ k) ∧ Below w.heap.size w w' := by
  go_enter Tryz.func134, Tryz.ntmps134
  go_wp2_with (first | (refine makeRow rfl (.const (.int .i64 0)) (.tmp 6) rfl (n : Int) n (by rfl) (by rfl) rfl (by omega) ?_; intro w1 v1 ho1 hn1 hb1; obtain ⟨pa, ca, rfl⟩ := owns_form ho1))
  go_ret
  have hs2 : ((w.alloc (Obj.cells #[ptr P] 80)).alloc (Obj.cells #[.int .i64 (n : Int)] 3)).heap.size = w.heap.size + 2 := by simp
  have hsz := hb1.size
  rw [hs2] at hsz hn1
  have q0 : w1.heap[w.heap.size]? = some (.cells #[ptr P] 80 (0, 0)) := by
    rw [hb1.block w.heap.size (by rw [hs2]; omega), heap_alloc_old _ _ (by simp)]
    exact heap_alloc_new _ _
  have q1 : w1.heap[w.heap.size + 1]? = some (.cells #[.int .i64 (n : Int)] 3 (0, 0)) := by
    rw [hb1.block (w.heap.size + 1) (by rw [hs2]; omega)]
    have := heap_alloc_new (w.alloc (Obj.cells #[ptr P] 80)) (.cells #[.int .i64 (n : Int)] 3)
    simpa using this
  refine ⟨w1.heap.size, w.heap.size, w.heap.size + 1, .slice pa 0 ca, rfl, heap_alloc_new _ _, ?_, ?_, ?_, by omega, Nat.le_refl _, by omega, fun k hk => by have := hn1 k hk; omega, ?_⟩
  · rw [heap_alloc_old _ _ (by omega)]; exact q0
  · rw [heap_alloc_old _ _ (by omega)]; exact q1
  · refine owns_same ho1 (fun k hk => ?_)
    obtain ⟨cs, q⟩ := owns_lt ho1 k hk
    exact heap_alloc_old _ _ (lt_of_row q)
  · exact ((((Below.refl _ _).alloc (Nat.le_refl _) _).alloc (by simp) _).trans (hb1.mono (by rw [hs2]; omega))).alloc (by omega) _
set_option maxHeartbeats 4000000 in
set_option maxRecDepth 8000 in
theorem lines_any (P : Nat) (w : World) :
    Calls Tryz.prog 76 #[ptr P] w fun e w' => e = .returned (nxt 0 (w.heap.size + 1) w.heap.size 0) ∧ w' = (w.alloc (.cells #[ptr P] 80)).alloc (.cells #[.slice none 0 0] 102) := by
  go_enter Tryz.func76, Tryz.ntmps76
  go_wp2
  go_ret
  exact ⟨rfl, rfl⟩
end Go.Proofs.YthlacailhfhjnaaGreatDoor
namespace Go.Proofs.YthlacailhfhjnaaGreatDoor
open Go.RowKit Go.Lib
set_option maxHeartbeats 4000000 in
set_option maxRecDepth 8000 in
theorem judgeFirst47_any {B P : Nat} {p : Ps} {nx hv : Value} {w : World} (h : PAt 47 P p nx hv w) (_hE : Env B w) (l : Bs) (r : Bool) (hl : l.length ≤ 1000000) (hst : p.st = 0) :
    Calls Tryz.prog 114 #[ptr P, S l, .bool r] w fun e w' => e = .returned (.int .i64 (jFst opM p l r).2) ∧ PAt 47 P (jr (jFst opM p l r) p) nx hv w' ∧ Only (fun k => k = P) w w' := by
  have HO := hide (messageLine_any l w (by omega))
  have c2 : w.cell? ⟨P, 2, none⟩ = some (Fn1 47) := h.cell 2
  have hlt := h.lt
  have H := hide h
  clear h _hE
  cases ho : opM l with
  | none =>
    rw [ho] at HO
    have hj : jFst opM p l r = (pov, 50) := by unfold jFst; rw [ho]
    rw [hj]
    clear ho hj
    go_enter Tryz.func114, Tryz.ntmps114
    go_wp2_with fail
    refine (unhide HO).mono ?_
    rintro e w1 ⟨rfl, b1⟩
    have H1 := hide ((unhide H).below b1)
    have O1 := hide (Only.of_below (P := fun k => k = P) b1)
    simp only [opv]
    cases r
    · go_wp2
      go_ret
      exact ⟨rfl, (unhide H1).below ((Below.refl _ _).alloc (Nat.le_refl _) _), (unhide O1).more _⟩
    · go_wp2
      go_ret
      exact ⟨rfl, (unhide H1).below ((Below.refl _ _).alloc (Nat.le_refl _) _), (unhide O1).more _⟩
  | some f =>
    rw [ho] at HO
    have hj : jFst opM p l r = if r then ({ p with fs := f, st := 1 }, 0) else (pov, 50) := by unfold jFst; rw [ho]
    rw [hj]
    obtain ⟨fm, fp, fs⟩ := f
    clear ho hj
    go_enter Tryz.func114, Tryz.ntmps114
    go_wp2_with fail
    refine (unhide HO).mono ?_
    rintro e w1 ⟨rfl, b1⟩
    have H1 := hide ((unhide H).below b1)
    have O1 := hide (Only.of_below (P := fun k => k = P) b1)
    have hlt1 := (unhide H1).lt
    have d4 : w1.cell? ⟨P, 4, none⟩ = some (S p.fs.m) := (unhide H1).cell 4
    have d5 : w1.cell? ⟨P, 5, none⟩ = some (S p.fs.p) := (unhide H1).cell 5
    have d6 : w1.cell? ⟨P, 6, none⟩ = some (.int .i64 p.fs.s) := (unhide H1).cell 6
    have d0 : w1.cell? ⟨P, 0, none⟩ = some (.int .i64 p.st) := (unhide H1).cell 0
    have dz : ∀ j, w1.frozen? ⟨P, j, none⟩ = false := (unhide H1).fz
    simp only [opv]
    cases r
    · go_wp2
      go_ret
      exact ⟨rfl, (unhide H1).below ((Below.refl _ _).alloc (Nat.le_refl _) _), (unhide O1).more _⟩
    · go_wp2
      go_ret
      refine ⟨rfl, ?_, ?_⟩
      · have A1 := (unhide H1).set 4 (S fm) (op' := 47) (nx' := nx) (p' := { p with fs := ⟨fm, p.fs.p, p.fs.s⟩ }) rfl rfl
        have A2 := A1.set 5 (S fp) (op' := 47) (nx' := nx) (p' := { p with fs := ⟨fm, fp, p.fs.s⟩ }) rfl rfl
        have A3 := A2.set 6 (.int .i64 fs) (op' := 47) (nx' := nx) (p' := { p with fs := ⟨fm, fp, fs⟩ }) rfl rfl
        have A4 := A3.set 0 (.int .i64 1) (op' := 47) (nx' := nx) (p' := { p with fs := ⟨fm, fp, fs⟩, st := 1 }) (by simp [cellsP, bdv, hst]) rfl
        exact A4.below ((Below.refl _ _).alloc (Nat.le_refl _) _)
      · exact ((((((unhide O1).put _ _ (.inl rfl)).put _ _ (.inl rfl)).put _ _ (.inl rfl)).put _ _ (.inl rfl)).more _)
end Go.Proofs.YthlacailhfhjnaaGreatDoor
namespace Go.Proofs.YthlacailhfhjnaaGreatDoor
open Go.RowKit Go.Lib
set_option maxHeartbeats 4000000 in
set_option maxRecDepth 8000 in
theorem judgeLength_any {op B P : Nat} {p : Ps} {nx hv : Value} {w : World} (h : PAt op P p nx hv w) (hE : Env B w) (l : Bs) (hl : l.length ≤ 1000000) :
    Calls Tryz.prog 136 #[ptr P, S l] w fun e w' => e = .returned (.int .i64 (jLen p l).2) ∧ PAt op P (jr (jLen p l) p) nx hv w' ∧ Only (fun k => k = P) w w' := by
  have c8 : w.cell? ⟨P, 8, none⟩ = some (.int .i64 p.len) := h.cell 8
  have hlt := h.lt
  have H := hide h
  have HN := hide (isNumber_any l w (by omega))
  clear h
  by_cases h1 : p.len = -1
  · have c8' : w.cell? ⟨P, 8, none⟩ = some (.int .i64 (-1)) := by rw [c8, h1]
    by_cases hn : num l = true
    · rw [hn] at HN
      by_cases hv : vl 0 l < 9223372036854775808
      · have HK := hide (atoi_ok l w (by omega) hn hv)
        by_cases h4 : 4000 < vl 0 l
        · have hj : jLen p l = (pov, 53) := by unfold jLen; rw [hn, decide_eq_true h1, if_neg (by simp), if_pos h4]
          rw [hj]
          have i4 : (4000 : Int) < (vl 0 l : Int) := by omega
          clear hj hE hv hn c8 h1
          generalize vl 0 l = V at *
          go_enter Tryz.func136, Tryz.ntmps136
          go_wp2_with (first | (go_at_call 95; refine (unhide HN).mono ?_; rintro e w' ⟨rfl, rfl⟩))
          refine (unhide HK).mono ?_
          rintro e w1 ⟨rfl, b1⟩
          have H1 := hide ((unhide H).below b1)
          have O1 := hide (Only.of_below (P := fun k => k = P) b1)
          clear b1
          go_wp2
          go_ret
          exact ⟨rfl, unhide H1, unhide O1⟩
        · have hj : jLen p l = ({ p with len := vl 0 l }, 0) := by unfold jLen; rw [hn, decide_eq_true h1, if_neg (by simp), if_neg h4]
          rw [hj]
          have i4 : ¬ (4000 : Int) < (vl 0 l : Int) := by omega
          clear hj hE hv hn c8 h1
          generalize vl 0 l = V at *
          go_enter Tryz.func136, Tryz.ntmps136
          go_wp2_with (first | (go_at_call 95; refine (unhide HN).mono ?_; rintro e w' ⟨rfl, rfl⟩))
          refine (unhide HK).mono ?_
          rintro e w1 ⟨rfl, b1⟩
          have H1 := hide ((unhide H).below b1)
          have O1 := hide (Only.of_below (P := fun k => k = P) b1)
          have d8 : w1.cell? ⟨P, 8, none⟩ = some (.int .i64 p.len) := (unhide H1).cell 8
          have dz : ∀ j, w1.frozen? ⟨P, j, none⟩ = false := (unhide H1).fz
          have hlt1 := (unhide H1).lt
          clear b1
          go_wp2
          go_ret
          refine ⟨rfl, ?_, (unhide O1).put _ _ (.inl rfl)⟩
          exact (unhide H1).set 8 (.int .i64 V) (op' := op) (nx' := nx) (p' := { p with len := V }) rfl rfl
      · have HK := hide (atoi_no l w hE (by omega) hn hv)
        have hj : jLen p l = (pov, 53) := by unfold jLen; rw [hn, decide_eq_true h1, if_neg (by simp), if_pos (by omega)]
        rw [hj]
        clear hj hE hv hn c8 h1
        go_enter Tryz.func136, Tryz.ntmps136
        go_wp2_with (first | (go_at_call 95; refine (unhide HN).mono ?_; rintro e w' ⟨rfl, rfl⟩))
        refine (unhide HK).mono ?_
        rintro e w1 ⟨x, ty, pv, rfl, b1⟩
        have H1 := hide ((unhide H).below b1)
        have O1 := hide (Only.of_below (P := fun k => k = P) b1)
        clear b1
        go_wp2
        go_ret
        exact ⟨rfl, unhide H1, unhide O1⟩
    · have hn' : num l = false := by simpa using hn
      rw [hn'] at HN
      have hj : jLen p l = (pov, 52) := by unfold jLen; rw [hn', if_pos (by simp)]
      rw [hj]
      clear hj hE hn hn' c8 h1
      go_enter Tryz.func136, Tryz.ntmps136
      go_wp2_with (first | (go_at_call 95; refine (unhide HN).mono ?_; rintro e w' ⟨rfl, rfl⟩))
      go_ret
      exact ⟨rfl, unhide H, Only.refl _ _⟩
  · have hj : jLen p l = (pov, 52) := by unfold jLen; rw [decide_eq_false h1, if_pos (by simp)]
    rw [hj]
    clear hj hE
    go_enter Tryz.func136, Tryz.ntmps136
    go_wp2
    go_ret
    exact ⟨rfl, unhide H, Only.refl _ _⟩
end Go.Proofs.YthlacailhfhjnaaGreatDoor
