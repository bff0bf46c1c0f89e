import Derived.Test.YthddilflldkmfaaDoorDeco
import Derived.Test.YthddilflldkmfaaDoorShlf
namespace Go.Proofs.YthddilflldkmfaaDoor
open Go.RowKit Go.Lib
theorem ba_app (a b : List UInt8) : ((⟨a.toArray⟩ : ByteArray) ++ ⟨b.toArray⟩) = ⟨(a ++ b).toArray⟩ := by
  apply ByteArray.ext
  rw [ByteArray.data_append]
  simp
theorem told2_is (r : Option (List UInt8)) : ∃ x y, told2 r = .tuple #[.string x, .int .i64 y] := ⟨_, _, rfl⟩
theorem repeat_one (n : Nat) : repeatL [61] n = List.replicate n 61 := by
  induction n with
  | zero => rfl
  | succ n ih => rw [repeatL, ih, List.replicate_succ]; rfl
set_option maxHeartbeats 1000000 in
theorem base64_any (s : List UInt8) (w : World) (hs : s.length ≤ 17592186044416) :
    Calls Tryd.prog 45 #[.string ⟨s.toArray⟩] w fun e w' => e = .returned (.string ⟨(enc names false s).toArray⟩) ∧ Below w.heap.size w w' := by
  go_enter Tryd.func45, Tryd.ntmps45
  go_wp2_with fail
  refine (spell6_any s names w hs rfl).mono ?_
  rintro e w1 ⟨rfl, hb⟩
  go_wp2
  go_ret
  exact ⟨ret_str (enc_false _ _).symm, hb⟩
set_option maxHeartbeats 1000000 in
theorem hex_any (s : List UInt8) (w : World) (hs : s.length ≤ 17592186044416) :
    Calls Tryd.prog 49 #[.string ⟨s.toArray⟩] w fun e w' => e = .returned (.string ⟨(encH s).toArray⟩) ∧ Below w.heap.size w w' := by
  go_enter Tryd.func49, Tryd.ntmps49
  go_wp2_with fail
  refine (spell4_any s hexs w hs rfl).mono ?_
  rintro e w1 ⟨rfl, hb⟩
  go_wp2
  go_ret
  exact ⟨rfl, hb⟩
set_option maxHeartbeats 1000000 in
theorem frombase64_any (t : List UInt8) (w : World) (ht : t.length ≤ 17592186044416) :
    Calls Tryd.prog 39 #[.string ⟨t.toArray⟩] w fun e w' => e = .returned (told2 (d64 t)) ∧ Below w.heap.size w w' := by
  unfold d64
  go_enter Tryd.func39, Tryd.ntmps39
  go_wp2_with fail
  refine (unspell6_any t names w ht rfl).mono ?_
  rintro e w1 ⟨rfl, hb⟩
  obtain ⟨x, y, hxy⟩ := told2_is (un6 names t)
  rw [hxy]
  have HX := hide hxy
  clear hxy
  go_wp2
  go_ret2
  exact ⟨by rw [unhide HX]; rfl, hb⟩
set_option maxHeartbeats 1000000 in
theorem fromhex_any (t : List UInt8) (w : World) (ht : t.length ≤ 17592186044416) :
    Calls Tryd.prog 43 #[.string ⟨t.toArray⟩] w fun e w' => e = .returned (told2 (refun4 t)) ∧ Below w.heap.size w w' := by
  rw [← un4_dec]
  go_enter Tryd.func43, Tryd.ntmps43
  go_wp2_with fail
  refine (unspell4_any t hexs w ht rfl).mono ?_
  rintro e w1 ⟨rfl, hb⟩
  obtain ⟨x, y, hxy⟩ := told2_is (un4 hexs t)
  rw [hxy]
  have HX := hide hxy
  clear hxy
  go_wp2
  go_ret2
  exact ⟨by rw [unhide HX]; rfl, hb⟩
set_option maxHeartbeats 1000000 in
theorem refbase64_any (s : List UInt8) (w : World) (hs : s.length ≤ 17592186044416) :
    Calls Tryd.prog 46 #[.string ⟨s.toArray⟩] w fun e w' => e = .returned (.string ⟨(enc names false s).toArray⟩) ∧ Below w.heap.size w w' := by
  go_enter Tryd.func46, Tryd.ntmps46
  go_wp2_with fail
  refine (refsigns_any s names false w hs rfl).mono ?_
  rintro e w1 ⟨rfl, hb⟩
  go_wp2
  go_ret
  exact ⟨rfl, hb⟩
set_option maxHeartbeats 1000000 in
theorem refstandard_any (s : List UInt8) (w : World) (hs : s.length ≤ 17592186044416) :
    Calls Tryd.prog 48 #[.string ⟨s.toArray⟩] w fun e w' => e = .returned (.string ⟨(enc mail true s).toArray⟩) ∧ Below w.heap.size w w' := by
  go_enter Tryd.func48, Tryd.ntmps48
  go_wp2_with fail
  refine (refsigns_any s mail true w hs rfl).mono ?_
  rintro e w1 ⟨rfl, hb⟩
  go_wp2
  go_ret
  exact ⟨rfl, hb⟩
theorem refhex2_any (s : List UInt8) (w : World) (hs : s.length ≤ 17592186044416) :
    Calls Tryd.prog 50 #[.string ⟨s.toArray⟩] w fun e w' => e = .returned (.string ⟨(encH s).toArray⟩) ∧ Below w.heap.size w w' := refhex_any s w hs
theorem reffromhex2_any (t : List UInt8) (w : World) (ht : t.length ≤ 17592186044416) :
    Calls Tryd.prog 44 #[.string ⟨t.toArray⟩] w fun e w' => e = .returned (told2 (refun4 t)) ∧ Below w.heap.size w w' := reffromhex_any t w ht
set_option maxHeartbeats 1000000 in
theorem standard_any (s : List UInt8) (w : World) (hs : s.length ≤ 17592186044416) :
    Calls Tryd.prog 47 #[.string ⟨s.toArray⟩] w fun e w' => e = .returned (.string ⟨(enc mail true s).toArray⟩) ∧ Below w.heap.size w w' := by
  have hn : ((3 - ((s.length : Int) % 3)) % 3) = (((3 - s.length % 3) % 3 : Nat) : Int) := by omega
  have hr : (3 - s.length % 3) % 3 < 3 := by omega
  have HE := hide (show enc mail true s = sgn mail (Six.sig s) ++ List.replicate ((3 - s.length % 3) % 3) 61 by simp [enc, pad])
  generalize (3 - s.length % 3) % 3 = n at *
  go_enter Tryd.func47, Tryd.ntmps47
  go_wp2_with fail
  refine (spell6_any s mail w hs rfl).mono ?_
  rintro e w1 ⟨rfl, hb⟩
  go_wp2_with fail
  refine (Tryd.strings_Repeat ⟨#[61]⟩ n w1 (by omega) (by simp [ByteArray.size]; omega)).mono ?_
  rintro e w2 ⟨rfl, hb2⟩
  have hcat : (sgn mail (Six.sig s)).length + (repeatL [61] n).length ≤ 9223372036854775807 := by rw [sgn_len, Six.sig_len, repeat_one, List.length_replicate]; omega
  go_wp2
  go_ret
  refine ⟨?_, hb.trans (hb2.mono hb.size)⟩
  rw [unhide HE, ← repeat_one, ba_app]
  rfl
set_option maxHeartbeats 1000000 in
theorem fromstandard_any (t : List UInt8) (w : World) (ht : t.length ≤ 17592186044416) :
    Calls Tryd.prog 41 #[.string ⟨t.toArray⟩] w fun e w' => e = .returned (told2 (dStd t)) ∧ Below w.heap.size w w' := by
  unfold dStd
  by_cases h4 : t.length % 4 = 0
  · have h4i : ((t.length : Int) % 4) = 0 := by omega
    rw [if_pos h4]
    have hbl : (bare t).length ≤ t.length := by
      obtain ⟨k, _, hk⟩ := bare_cases t
      have := congrArg List.length hk
      rw [List.length_append] at this
      omega
    go_enter Tryd.func41, Tryd.ntmps41
    go_wp2_with fail
    refine (Tryd.strings_TrimSuffix ⟨t.toArray⟩ ⟨#[61]⟩ w (by simp [ByteArray.size]; omega)).mono ?_
    rintro e w1 ⟨rfl, rfl⟩
    go_wp2_with fail
    refine (Tryd.strings_TrimSuffix ⟨(trimSuffix t [61]).toArray⟩ ⟨#[61]⟩ w1 (by
      have : (trimSuffix t [61]).length ≤ t.length := by
        rcases trim_cases t with q | q
        · rw [q]; omega
        · have := congrArg List.length q; rw [List.length_append] at this; omega
      simp [ByteArray.size]; omega)).mono ?_
    rintro e w2 ⟨rfl, rfl⟩
    go_wp2_with fail
    refine (unspell6_any (bare t) mail w2 (by omega) rfl).mono ?_
    rintro e w3 ⟨rfl, hb⟩
    obtain ⟨x, y, hxy⟩ := told2_is (un6 mail (bare t))
    rw [hxy]
    have HX := hide hxy
    clear hxy
    go_wp2
    go_ret2
    exact ⟨by rw [unhide HX]; rfl, hb⟩
  · have h4i : ((t.length : Int) % 4 != 0) = true := by simp; omega
    rw [if_neg h4]
    go_enter Tryd.func41, Tryd.ntmps41
    go_wp2
    go_ret2
    exact ⟨rfl, Below.refl _ _⟩
theorem by6_len {A t m : List UInt8} (h : by6 A t = some m) : m.length ≤ t.length := by
  unfold by6 at h
  split at h
  · have := readAll_len (t.map (pl A))
    rw [List.length_map] at this
    rw [← Option.some.inj h]; exact this
  · cases h
theorem unf_len (t : List UInt8) : (unf t).length ≤ t.length := by
  unfold unf
  rw [List.length_reverse]
  have := (List.dropWhile_sublist (l := t.reverse) (fun x => x == 61)).length_le
  rw [List.length_reverse] at this
  exact this
set_option maxHeartbeats 1000000 in
theorem reffrombase64_any (t : List UInt8) (w : World) (ht : t.length ≤ 17592186044416) :
    Calls Tryd.prog 40 #[.string ⟨t.toArray⟩] w fun e w' => e = .returned (told2 (d64 t)) ∧ Below w.heap.size w w' := by
  rw [← ref6_dec]
  cases hb6 : by6 names t with
  | none =>
    have HN := hide hb6
    clear hb6
    rw [show ∀ E t, kept E t none = none from fun _ _ => rfl]
    go_enter Tryd.func40, Tryd.ntmps40
    go_wp2_with fail
    refine (refbytes_any t names w ht rfl).mono ?_
    rintro e w1 ⟨rfl, hb⟩
    rw [unhide HN]
    unfold told3
    go_wp2
    go_ret2
    exact ⟨rfl, hb⟩
  | some m =>
    have hml := by6_len hb6
    have HN := hide hb6
    clear hb6
    by_cases he : enc names false m = t
    · rw [kept_yes he]
      have HE := hide he
      clear he
      go_enter Tryd.func40, Tryd.ntmps40
      go_wp2_with fail
      refine (refbytes_any t names w ht rfl).mono ?_
      rintro e w1 ⟨rfl, hb⟩
      rw [unhide HN]
      unfold told3
      go_wp2_with fail
      refine (refsigns_any m names false w1 (by omega) rfl).mono ?_
      rintro e w2 ⟨rfl, hb2⟩
      rw [unhide HE]
      go_wp2
      go_ret2
      exact ⟨rfl, hb.trans (hb2.mono hb.size)⟩
    · rw [kept_no he]
      have hne0 : (enc names false m == t) = false := by simpa using he
      clear he
      go_enter Tryd.func40, Tryd.ntmps40
      go_wp2_with fail
      refine (refbytes_any t names w ht rfl).mono ?_
      rintro e w1 ⟨rfl, hb⟩
      rw [unhide HN]
      unfold told3
      go_wp2_with fail
      refine (refsigns_any m names false w1 (by omega) rfl).mono ?_
      rintro e w2 ⟨rfl, hb2⟩
      generalize enc names false m = X at *
      go_wp2
      go_ret2
      exact ⟨rfl, hb.trans (hb2.mono hb.size)⟩
set_option maxHeartbeats 1000000 in
theorem reffromstandard_any (t : List UInt8) (w : World) (ht : t.length ≤ 17592186044416) :
    Calls Tryd.prog 42 #[.string ⟨t.toArray⟩] w fun e w' => e = .returned (told2 (dStd t)) ∧ Below w.heap.size w w' := by
  rw [← refstd_dec]
  have hul := unf_len t
  cases hb6 : by6 mail (unf t) with
  | none =>
    have HN := hide hb6
    clear hb6
    rw [show ∀ E t, kept E t none = none from fun _ _ => rfl]
    go_enter Tryd.func42, Tryd.ntmps42
    go_wp2_with fail
    refine (unfilled_any t w (by omega)).mono ?_
    rintro e w0 ⟨rfl, rfl⟩
    go_wp2_with fail
    refine (refbytes_any (unf t) mail w0 (by omega) rfl).mono ?_
    rintro e w1 ⟨rfl, hb⟩
    rw [unhide HN]
    unfold told3
    go_wp2
    go_ret2
    exact ⟨rfl, hb⟩
  | some m =>
    have hml := by6_len hb6
    have HN := hide hb6
    clear hb6
    by_cases he : enc mail true m = t
    · rw [kept_yes he]
      have HE := hide he
      clear he
      go_enter Tryd.func42, Tryd.ntmps42
      go_wp2_with fail
      refine (unfilled_any t w (by omega)).mono ?_
      rintro e w0 ⟨rfl, rfl⟩
      go_wp2_with fail
      refine (refbytes_any (unf t) mail w0 (by omega) rfl).mono ?_
      rintro e w1 ⟨rfl, hb⟩
      rw [unhide HN]
      unfold told3
      go_wp2_with fail
      refine (refsigns_any m mail true w1 (by omega) rfl).mono ?_
      rintro e w2 ⟨rfl, hb2⟩
      rw [unhide HE]
      go_wp2
      go_ret2
      exact ⟨rfl, hb.trans (hb2.mono hb.size)⟩
    · rw [kept_no he]
      have hne0 : (enc mail true m == t) = false := by simpa using he
      clear he
      go_enter Tryd.func42, Tryd.ntmps42
      go_wp2_with fail
      refine (unfilled_any t w (by omega)).mono ?_
      rintro e w0 ⟨rfl, rfl⟩
      go_wp2_with fail
      refine (refbytes_any (unf t) mail w0 (by omega) rfl).mono ?_
      rintro e w1 ⟨rfl, hb⟩
      rw [unhide HN]
      unfold told3
      go_wp2_with fail
      refine (refsigns_any m mail true w1 (by omega) rfl).mono ?_
      rintro e w2 ⟨rfl, hb2⟩
      generalize enc mail true m = X at *
      go_wp2
      go_ret2
      exact ⟨rfl, hb.trans (hb2.mono hb.size)⟩
end Go.Proofs.YthddilflldkmfaaDoor
