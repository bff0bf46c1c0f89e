import Derived.Test.YtknlafgaagimjaaDoorSco
namespace Go.Proofs.YtknlafgaagimjaaDoor
open Go.RowKit Go.Lib Go.Maps Go.Sort
theorem Lst.print {w : World} {a : Option Addr} {n : Nat} {l : List Bs} (h : Lst w a n l) (cap : Nat) : Calls Tryd.prog 20 #[.slice a n cap] w fun e w' => e = .returned (.tuple #[S (print l).1, .int .i64 ((print l).2 : Int)]) ∧ Below w.heap.size w w' :=
  Print_any a n cap l w h.sts (by have := h.few; omega) h.len
set_option maxHeartbeats 32000000 in
set_option maxRecDepth 16000 in
theorem back_any (s : Bs) (a : Option Addr) (cap : Nat) (l : List Bs) (w : World) (hs : s.length ≤ 9223372036854775807) (hp : Sts w a l.length l) (hn : l.length ≤ 9223372036854775806) (hL : Lns l) :
    Calls Tryd.prog 6 #[S s, .slice a l.length cap] w fun e w' => e = .returned (.bool true) ∧ Below w.heap.size w w' := by
  have HWG := hide (weighs_any a l.length cap l w hp hn hL)
  have HP := hide hp
  have HL := hide hL
  clear hp hL
  go_enter Tryd.func6, Tryd.ntmps6
  go_wp2_with fail
  refine (unhide HWG).mono ?_
  rintro e w0 ⟨r, rfl, hr0, hr1, rfl⟩
  have HS := hide (ads_any s.length r hs (by omega) w0)
  have hle := @ads_le s.length r
  generalize ads s.length r = N0 at *
  go_wp2_with fail
  refine (unhide HS).mono ?_
  rintro e w00 ⟨rfl, rfl⟩
  by_cases hbig : ¬ N0 ≤ 2147483647
  · have hgt : decide (2147483647 < (N0 : Int)) = true := by rw [decide_eq_true_eq]; omega
    go_wp2
    go_ret
    exact ⟨rfl, Below.refl _ _⟩
  have hbig := Decidable.not_not.1 hbig
  have hgt : decide (2147483647 < (N0 : Int)) = false := by rw [decide_eq_false_iff_not]; omega
  have h3 := hle hbig
  have hll := hr1 h3.2.1
  have hs32 : s.length < 4294967281 := by omega
  have Ll0 : Hid (Lst w00 a l.length l) := hide ⟨unhide HP, by omega, unhide HL⟩
  obtain ⟨A, ea, hA⟩ : ∃ A ea, parse s = (A, ea) := ⟨_, _, rfl⟩
  have HA := hide hA
  have PA := hide (fun W => Parse_any s W hs32)
  rw [hA] at PA
  clear hA hle h3 hll hr1 hr0 HWG HS HP
  have C1 := hide (awake_any w00)
  go_wp2_with fail
  refine (unhide C1).mono ?_
  rintro e w1 ⟨rfl, b1⟩
  have Ll1 := hide ((unhide Ll0).below b1)
  have HB1 := hide b1
  clear b1 C1 Ll0
  have C2 := hide (unhide PA w1)
  go_wp2_with fail
  refine (unhide C2).mono ?_
  rintro e w2 ⟨aA, cA, rfl, o2, b2⟩
  have Ll2 := hide ((unhide Ll1).below b2)
  have HB2 := hide (bel2 (unhide HB1) b2)
  have LA2 : Hid (Lst w2 aA A.length A) := hide (o2.lst (parse_two (unhide HA)).1 (parse_two (unhide HA)).2)
  clear b2 C2 o2 Ll1 HB1
  clear PA hgt
  by_cases h1 : ¬ ea = 0
  · obtain ⟨hAn, h60⟩ := (parse_err (unhide HA)).resolve_left h1
    subst hAn
    have h1z : ((ea : Int) == 0) = false := by rw [beq_eq_false_iff_ne]; omega
    rcases h60 with h60 | h60
    · subst h60
      clear h1 h1z
      cases hrl : right l
      ·
        have hpr := print_wrong hrl
        have hpp : parse [] = ([], 0) := rfl
        have HPR := hide hpr.1
        have hw0 : ((wr l : Int) == 0) = false := by rw [beq_eq_false_iff_ne]; have := hpr.2; omega
        have HNE : Hid (decide ([] = l) = decide ([] = l)) := hide rfl
        have HRL := hide hrl
        have C3 := hide ((unhide Ll2).print cap)
        rw [unhide HPR] at C3
        go_wp2_with fail
        refine (unhide C3).mono ?_
        rintro e w3 ⟨rfl, b3⟩
        have Ll3 := hide ((unhide Ll2).below b3)
        have LA3 := hide ((unhide LA2).below b3)
        have HB3 := hide (bel2 (unhide HB2) b3)
        clear b3 C3 Ll2 LA2 HB2
        have C4 := hide (Parse_any [] w3 (by decide))
        rw [hpp] at C4
        go_wp2_with fail
        refine (unhide C4).mono ?_
        rintro e w4 ⟨aZ, cZ, rfl, o4, b4⟩
        have Ll4 := hide ((unhide Ll3).below b4)
        have LA4 := hide ((unhide LA3).below b4)
        have HB4 := hide (bel2 (unhide HB3) b4)
        have LZ4 : Hid (Lst w4 aZ ([] : List Bs).length ([] : List Bs)) := hide (o4.lst (by decide) (by decide))
        clear b4 C4 o4 Ll3 LA3 HB3
        have CZ := hide (same_any aZ a _ _ cZ cap _ _ w4 (unhide LZ4).sts (unhide Ll4).sts (by simp) (by omega))
        generalize decide ([] = l) = dz at CZ
        go_wp2_with fail
        refine (unhide CZ).mono ?_
        rintro e wy ⟨rfl, by1⟩
        have HBy := hide (bel2 (unhide HB4) by1)
        have CR := hide (((unhide Ll4).below by1).right cap)
        rw [unhide HRL] at CR
        clear by1 CZ
        clear hrl hpr hpp
        go_wp2_with (first | (go_at_call 19; refine (unhide CR).mono ?_; rintro e wz ⟨rfl, bz⟩; have HZ := hide bz; clear bz))
        go_ret
        exact ⟨rfl, bel2 (unhide HBy) (unhide HZ)⟩
      ·
        have HPR := hide (print_right hrl)
        have HPP := hide (parse_tx hrl)
        have hsm := (right_small hrl).2
        have HRL := hide hrl
        have C3 := hide ((unhide Ll2).print cap)
        rw [unhide HPR] at C3
        go_wp2_with fail
        refine (unhide C3).mono ?_
        rintro e w3 ⟨rfl, b3⟩
        have Ll3 := hide ((unhide Ll2).below b3)
        have LA3 := hide ((unhide LA2).below b3)
        have HB3 := hide (bel2 (unhide HB2) b3)
        clear b3 C3 Ll2 LA2 HB2
        have C4 := hide (Parse_any (tx l) w3 (by omega))
        rw [unhide HPP] at C4
        go_wp2_with fail
        refine (unhide C4).mono ?_
        rintro e w4 ⟨aZ, cZ, rfl, o4, b4⟩
        have Ll4 := hide ((unhide Ll3).below b4)
        have LA4 := hide ((unhide LA3).below b4)
        have HB4 := hide (bel2 (unhide HB3) b4)
        have LZ4 : Hid (Lst w4 aZ l.length l) := hide (o4.lst (unhide Ll3).few (fun x hx => by obtain ⟨j, hj, rfl⟩ := List.getElem_of_mem hx; have := (unhide Ll3).len j; simpa [hj] using this))
        clear b4 C4 o4 Ll3 LA3 HB3
        have CZ := hide (same_any aZ a _ _ cZ cap _ _ w4 (unhide LZ4).sts (unhide Ll4).sts (by omega) (by omega))
        rw [show decide (l = l) = true by simp] at CZ
        go_wp2_with fail
        refine (unhide CZ).mono ?_
        rintro e wy ⟨rfl, by1⟩
        have HBy := hide (bel2 (unhide HB4) by1)
        have CR := hide (((unhide Ll4).below by1).right cap)
        rw [unhide HRL] at CR
        clear by1 CZ
        clear hrl hsm
        go_wp2_with (first | (go_at_call 19; refine (unhide CR).mono ?_; rintro e wz ⟨rfl, bz⟩; have HZ := hide bz; clear bz))
        go_ret
        exact ⟨rfl, bel2 (unhide HBy) (unhide HZ)⟩
    · subst h60
      clear h1 h1z
      cases hrl : right l
      ·
        have hpr := print_wrong hrl
        have hpp : parse [] = ([], 0) := rfl
        have HPR := hide hpr.1
        have hw0 : ((wr l : Int) == 0) = false := by rw [beq_eq_false_iff_ne]; have := hpr.2; omega
        have HNE : Hid (decide ([] = l) = decide ([] = l)) := hide rfl
        have HRL := hide hrl
        have C3 := hide ((unhide Ll2).print cap)
        rw [unhide HPR] at C3
        go_wp2_with fail
        refine (unhide C3).mono ?_
        rintro e w3 ⟨rfl, b3⟩
        have Ll3 := hide ((unhide Ll2).below b3)
        have LA3 := hide ((unhide LA2).below b3)
        have HB3 := hide (bel2 (unhide HB2) b3)
        clear b3 C3 Ll2 LA2 HB2
        have C4 := hide (Parse_any [] w3 (by decide))
        rw [hpp] at C4
        go_wp2_with fail
        refine (unhide C4).mono ?_
        rintro e w4 ⟨aZ, cZ, rfl, o4, b4⟩
        have Ll4 := hide ((unhide Ll3).below b4)
        have LA4 := hide ((unhide LA3).below b4)
        have HB4 := hide (bel2 (unhide HB3) b4)
        have LZ4 : Hid (Lst w4 aZ ([] : List Bs).length ([] : List Bs)) := hide (o4.lst (by decide) (by decide))
        clear b4 C4 o4 Ll3 LA3 HB3
        have CZ := hide (same_any aZ a _ _ cZ cap _ _ w4 (unhide LZ4).sts (unhide Ll4).sts (by simp) (by omega))
        generalize decide ([] = l) = dz at CZ
        go_wp2_with fail
        refine (unhide CZ).mono ?_
        rintro e wy ⟨rfl, by1⟩
        have HBy := hide (bel2 (unhide HB4) by1)
        have CR := hide (((unhide Ll4).below by1).right cap)
        rw [unhide HRL] at CR
        clear by1 CZ
        clear hrl hpr hpp
        go_wp2_with (first | (go_at_call 19; refine (unhide CR).mono ?_; rintro e wz ⟨rfl, bz⟩; have HZ := hide bz; clear bz))
        go_ret
        exact ⟨rfl, bel2 (unhide HBy) (unhide HZ)⟩
      ·
        have HPR := hide (print_right hrl)
        have HPP := hide (parse_tx hrl)
        have hsm := (right_small hrl).2
        have HRL := hide hrl
        have C3 := hide ((unhide Ll2).print cap)
        rw [unhide HPR] at C3
        go_wp2_with fail
        refine (unhide C3).mono ?_
        rintro e w3 ⟨rfl, b3⟩
        have Ll3 := hide ((unhide Ll2).below b3)
        have LA3 := hide ((unhide LA2).below b3)
        have HB3 := hide (bel2 (unhide HB2) b3)
        clear b3 C3 Ll2 LA2 HB2
        have C4 := hide (Parse_any (tx l) w3 (by omega))
        rw [unhide HPP] at C4
        go_wp2_with fail
        refine (unhide C4).mono ?_
        rintro e w4 ⟨aZ, cZ, rfl, o4, b4⟩
        have Ll4 := hide ((unhide Ll3).below b4)
        have LA4 := hide ((unhide LA3).below b4)
        have HB4 := hide (bel2 (unhide HB3) b4)
        have LZ4 : Hid (Lst w4 aZ l.length l) := hide (o4.lst (unhide Ll3).few (fun x hx => by obtain ⟨j, hj, rfl⟩ := List.getElem_of_mem hx; have := (unhide Ll3).len j; simpa [hj] using this))
        clear b4 C4 o4 Ll3 LA3 HB3
        have CZ := hide (same_any aZ a _ _ cZ cap _ _ w4 (unhide LZ4).sts (unhide Ll4).sts (by omega) (by omega))
        rw [show decide (l = l) = true by simp] at CZ
        go_wp2_with fail
        refine (unhide CZ).mono ?_
        rintro e wy ⟨rfl, by1⟩
        have HBy := hide (bel2 (unhide HB4) by1)
        have CR := hide (((unhide Ll4).below by1).right cap)
        rw [unhide HRL] at CR
        clear by1 CZ
        clear hrl hsm
        go_wp2_with (first | (go_at_call 19; refine (unhide CR).mono ?_; rintro e wz ⟨rfl, bz⟩; have HZ := hide bz; clear bz))
        go_ret
        exact ⟨rfl, bel2 (unhide HBy) (unhide HZ)⟩
  have h1 := Decidable.not_not.1 h1
  subst h1
  have RA := hide (parse_right (unhide HA))
  have PR := hide (print_right (unhide RA))
  have PT := hide (parse_tx (unhide RA))
  have hsA := right_small (unhide RA)
  have i60 : decide (60 < ((tx A).length : Int)) = false := by rw [decide_eq_false_iff_not]; omega
  have i8 : decide (8 < (A.length : Int)) = false := by rw [decide_eq_false_iff_not]; omega
  have htx : (tx A).length < 4294967281 := by omega
  have HTX := hide htx
  clear hsA htx
  have C3 := hide ((unhide LA2).right cA)
  rw [unhide RA] at C3
  go_wp2_with fail
  refine (unhide C3).mono ?_
  rintro e w3 ⟨rfl, b3⟩
  have Ll3 := hide ((unhide Ll2).below b3)
  have LA3 := hide ((unhide LA2).below b3)
  have HB3 := hide (bel2 (unhide HB2) b3)
  clear b3 C3 Ll2 LA2 HB2
  have C4 := hide ((unhide LA3).print cA)
  rw [unhide PR] at C4
  go_wp2_with fail
  refine (unhide C4).mono ?_
  rintro e w4 ⟨rfl, b4⟩
  have Ll4 := hide ((unhide Ll3).below b4)
  have LA4 := hide ((unhide LA3).below b4)
  have HB4 := hide (bel2 (unhide HB3) b4)
  clear b4 C4 Ll3 LA3 HB3
  have C5 := hide (Parse_any (tx A) w4 (unhide HTX))
  rw [unhide PT] at C5
  go_wp2_with fail
  refine (unhide C5).mono ?_
  rintro e w5 ⟨aQ, cQ, rfl, o5, b5⟩
  have Ll5 := hide ((unhide Ll4).below b5)
  have LA5 := hide ((unhide LA4).below b5)
  have HB5 := hide (bel2 (unhide HB4) b5)
  have LQ5 : Hid (Lst w5 aQ A.length A) := hide (o5.lst (small_len (unhide RA)) (small_names (unhide RA)))
  clear b5 C5 o5 Ll4 LA4 HB4
  have C6 := hide (same_lst cA cQ (unhide LA5) (unhide LQ5))
  rw [show decide (A = A) = true by simp] at C6
  go_wp2_with fail
  refine (unhide C6).mono ?_
  rintro e w6 ⟨rfl, b6⟩
  have Ll6 := hide ((unhide Ll5).below b6)
  have LA6 := hide ((unhide LA5).below b6)
  have LQ6 := hide ((unhide LQ5).below b6)
  have HB6 := hide (bel2 (unhide HB5) b6)
  clear b6 C6 Ll5 LA5 LQ5 HB5
  clear LQ6
  cases hrl : right l
  ·
    have hpr := print_wrong hrl
    have hpp : parse [] = ([], 0) := rfl
    have HPR := hide hpr.1
    have hw0 : ((wr l : Int) == 0) = false := by rw [beq_eq_false_iff_ne]; have := hpr.2; omega
    have HNE : Hid (decide ([] = l) = decide ([] = l)) := hide rfl
    have HRL := hide hrl
    have C7 := hide ((unhide Ll6).print cap)
    rw [unhide HPR] at C7
    go_wp2_with fail
    refine (unhide C7).mono ?_
    rintro e w7 ⟨rfl, b7⟩
    have Ll7 := hide ((unhide Ll6).below b7)
    have LA7 := hide ((unhide LA6).below b7)
    have HB7 := hide (bel2 (unhide HB6) b7)
    clear b7 C7 Ll6 LA6 HB6
    have C8 := hide (Parse_any [] w7 (by decide))
    rw [hpp] at C8
    go_wp2_with fail
    refine (unhide C8).mono ?_
    rintro e w8 ⟨aZ, cZ, rfl, o8, b8⟩
    have Ll8 := hide ((unhide Ll7).below b8)
    have LA8 := hide ((unhide LA7).below b8)
    have HB8 := hide (bel2 (unhide HB7) b8)
    have LZ8 : Hid (Lst w8 aZ ([] : List Bs).length ([] : List Bs)) := hide (o8.lst (by decide) (by decide))
    clear b8 C8 o8 Ll7 LA7 HB7
    have CZ := hide (same_any aZ a _ _ cZ cap _ _ w8 (unhide LZ8).sts (unhide Ll8).sts (by simp) (by omega))
    generalize decide ([] = l) = dz at CZ
    go_wp2_with fail
    refine (unhide CZ).mono ?_
    rintro e wy ⟨rfl, by1⟩
    have HBy := hide (bel2 (unhide HB8) by1)
    have CR := hide (((unhide Ll8).below by1).right cap)
    rw [unhide HRL] at CR
    clear by1 CZ
    clear hrl hpr hpp
    go_wp2_with (first | (go_at_call 19; refine (unhide CR).mono ?_; rintro e wz ⟨rfl, bz⟩; have HZ := hide bz; clear bz))
    go_ret
    exact ⟨rfl, bel2 (unhide HBy) (unhide HZ)⟩
  ·
    have HPR := hide (print_right hrl)
    have HPP := hide (parse_tx hrl)
    have hsm := (right_small hrl).2
    have HRL := hide hrl
    have C7 := hide ((unhide Ll6).print cap)
    rw [unhide HPR] at C7
    go_wp2_with fail
    refine (unhide C7).mono ?_
    rintro e w7 ⟨rfl, b7⟩
    have Ll7 := hide ((unhide Ll6).below b7)
    have LA7 := hide ((unhide LA6).below b7)
    have HB7 := hide (bel2 (unhide HB6) b7)
    clear b7 C7 Ll6 LA6 HB6
    have C8 := hide (Parse_any (tx l) w7 (by omega))
    rw [unhide HPP] at C8
    go_wp2_with fail
    refine (unhide C8).mono ?_
    rintro e w8 ⟨aZ, cZ, rfl, o8, b8⟩
    have Ll8 := hide ((unhide Ll7).below b8)
    have LA8 := hide ((unhide LA7).below b8)
    have HB8 := hide (bel2 (unhide HB7) b8)
    have LZ8 : Hid (Lst w8 aZ l.length l) := hide (o8.lst (unhide Ll7).few (fun x hx => by obtain ⟨j, hj, rfl⟩ := List.getElem_of_mem hx; have := (unhide Ll7).len j; simpa [hj] using this))
    clear b8 C8 o8 Ll7 LA7 HB7
    have CZ := hide (same_any aZ a _ _ cZ cap _ _ w8 (unhide LZ8).sts (unhide Ll8).sts (by omega) (by omega))
    rw [show decide (l = l) = true by simp] at CZ
    go_wp2_with fail
    refine (unhide CZ).mono ?_
    rintro e wy ⟨rfl, by1⟩
    have HBy := hide (bel2 (unhide HB8) by1)
    have CR := hide (((unhide Ll8).below by1).right cap)
    rw [unhide HRL] at CR
    clear by1 CZ
    clear hrl hsm
    go_wp2_with (first | (go_at_call 19; refine (unhide CR).mono ?_; rintro e wz ⟨rfl, bz⟩; have HZ := hide bz; clear bz))
    go_ret
    exact ⟨rfl, bel2 (unhide HBy) (unhide HZ)⟩
end Go.Proofs.YtknlafgaagimjaaDoor
