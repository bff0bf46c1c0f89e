import Derived.Test.YtknlafgaagimjaaDoorScm
namespace Go.Proofs.YtknlafgaagimjaaDoor
open Go.RowKit Go.Lib Go.Maps Go.Sort
theorem small_len {l : List Bs} (h : right l = true) : l.length ≤ 2147483648 := by have := (right_small h).1; omega
theorem small_names {l : List Bs} (h : right l = true) : ∀ x ∈ l, x.length ≤ 9223372036854775807 := fun x hx => by have := nm_len ((right_iff.1 h).1 x hx); omega
theorem same_lst {w : World} {a b : Option Addr} {l l2 : List Bs} (c1 c2 : Nat) (h : Lst w a l.length l) (h2 : Lst w b l2.length l2) : Calls Tryd.prog 12 #[.slice a l.length c1, .slice b l2.length c2] w fun e w' => e = .returned (.bool (decide (l = l2))) ∧ Below w.heap.size w w' :=
  same_any a b _ _ c1 c2 l l2 w h.sts h2.sts (by have := h.few; omega) (by have := h2.few; omega)
theorem parse_two {s : Bs} {u : List Bs} {e : Nat} (h : parse s = (u, e)) : u.length ≤ 2147483648 ∧ ∀ x ∈ u, x.length ≤ 9223372036854775807 := by
  rcases parse_err h with q | ⟨q, _⟩
  · subst q
    exact ⟨small_len (parse_right h), small_names (parse_right h)⟩
  · subst q
    exact ⟨by simp, by simp⟩
theorem big_le {n m : Nat} (h : (if n ≤ 2147483647 ∧ m ≤ 2147483647 then n + m else 2147483648) ≤ 2147483647) : n ≤ 2147483647 ∧ m ≤ 2147483647 ∧ n + m ≤ 2147483647 := by
  split at h
  · rename_i q
    exact ⟨q.1, q.2, h⟩
  · omega
theorem alg {A B : List Bs} (ha : right A = true) (hb : right B = true) : ∃ M N, meet A B = M ∧ minus A B = N ∧ meet B A = M ∧ right M = true ∧ right N = true ∧ join M N = (A, 0) ∧ within M A = true ∧ within M B = true ∧ meet N B = [] ∧ within A B = (N.length == 0) ∧ M.length + N.length = A.length ∧
    ∃ X ex, join A B = (X, ex) ∧ join B A = (X, ex) ∧ ((ex = 61 ∧ X = []) ∨ (ex = 0 ∧ right X = true ∧ within A X = true ∧ within B X = true ∧ minus X B = N ∧ X.length = B.length + N.length)) := by
  refine ⟨_, _, rfl, rfl, (meet_comm ha hb).symm, meet_right ha hb, minus_right ha hb, join_back ha hb, within_meet_l ha hb, within_meet_r ha hb, meet_minus ha hb, within_minus ha hb, parts_len ha hb, (join A B).1, (join A B).2, rfl, (join_comm ha hb).symm, ?_⟩
  rcases bound_err (u := rise (A ++ B)) with ⟨h, _⟩ | ⟨h, _⟩
  · right
    have hj : join A B = (rise (A ++ B), 0) := by rw [join_eq ha hb, h]
    rw [hj]
    exact ⟨rfl, (join_mem ha hb hj).1, join_within_l ha hb hj, join_within_r ha hb hj, join_minus ha hb hj, join_len ha hb hj⟩
  · left
    rw [join_eq ha hb, h]
    exact ⟨rfl, rfl⟩
set_option maxHeartbeats 32000000 in
set_option maxRecDepth 16000 in
theorem algebra_any (s t : Bs) (w : World) (hs : s.length ≤ 9223372036854775807) (ht : t.length ≤ 9223372036854775807) :
    Calls Tryd.prog 7 #[S s, S t] w fun e w' => e = .returned (.bool true) ∧ Below w.heap.size w w' := by
  have HS := hide (addsUp_any s.length t.length hs ht w)
  by_cases hbig : ¬ ((if s.length ≤ 2147483647 ∧ t.length ≤ 2147483647 then s.length + t.length else 2147483648) ≤ 2147483647)
  · generalize (if s.length ≤ 2147483647 ∧ t.length ≤ 2147483647 then s.length + t.length else 2147483648) = N0 at *
    have hgt : decide (2147483647 < (N0 : Int)) = true := by rw [decide_eq_true_eq]; omega
    go_enter Tryd.func7, Tryd.ntmps7
    go_wp2_with fail
    refine (unhide HS).mono ?_
    rintro e w0 ⟨rfl, rfl⟩
    go_wp2
    go_ret
    exact ⟨rfl, Below.refl _ _⟩
  have hle := Decidable.not_not.1 hbig
  have hs32 : s.length < 4294967281 := by have := big_le hle; omega
  have ht32 : t.length < 4294967281 := by have := big_le hle; omega
  obtain ⟨A, ea, hA⟩ : ∃ A ea, parse s = (A, ea) := ⟨_, _, rfl⟩
  obtain ⟨B, eb, hB⟩ : ∃ B eb, parse t = (B, eb) := ⟨_, _, rfl⟩
  have HA := hide hA
  have HBq := hide hB
  have PA := hide (fun W => Parse_any s W hs32)
  have PB := hide (fun W => Parse_any t W ht32)
  rw [hA] at PA
  rw [hB] at PB
  generalize (if s.length ≤ 2147483647 ∧ t.length ≤ 2147483647 then s.length + t.length else 2147483648) = N0 at *
  have hgt : decide (2147483647 < (N0 : Int)) = false := by rw [decide_eq_false_iff_not]; omega
  clear hA hB hbig hle hs32 ht32
  go_enter Tryd.func7, Tryd.ntmps7
  go_wp2_with fail
  refine (unhide HS).mono ?_
  rintro e w0 ⟨rfl, rfl⟩
  have C1 := hide (awake_any w0)
  go_wp2_with fail
  refine (unhide C1).mono ?_
  rintro e w1 ⟨rfl, b1⟩
  have HB1 := hide b1
  clear b1 C1 
  have C2 := hide (unhide PA w1)
  go_wp2_with fail
  refine (unhide C2).mono ?_
  rintro e w2 ⟨aA, cA, rfl, o2, b2⟩
  have HB2 := hide (bel2 (unhide HB1) b2)
  have LA2 : Hid (Lst w2 aA A.length A) := hide (o2.lst (parse_two (unhide HA)).1 (parse_two (unhide HA)).2)
  clear b2 C2 o2 HB1
  have C3 := hide (unhide PB w2)
  go_wp2_with fail
  refine (unhide C3).mono ?_
  rintro e w3 ⟨aB, cB, rfl, o3, b3⟩
  have LA3 := hide ((unhide LA2).below b3)
  have HB3 := hide (bel2 (unhide HB2) b3)
  have LB3 : Hid (Lst w3 aB B.length B) := hide (o3.lst (parse_two (unhide HBq)).1 (parse_two (unhide HBq)).2)
  clear b3 C3 o3 LA2 HB2
  clear PA PB HS hgt
  by_cases h1 : ¬ ea = 0
  · have i1 : ((ea : Int) == 0) = false := by rw [beq_eq_false_iff_ne]; omega
    go_wp2
    go_ret
    exact ⟨rfl, unhide HB3⟩
  have h1 := Decidable.not_not.1 h1
  subst h1
  by_cases h2 : ¬ eb = 0
  · have i1 : ((eb : Int) == 0) = false := by rw [beq_eq_false_iff_ne]; omega
    go_wp2
    go_ret
    exact ⟨rfl, unhide HB3⟩
  have h2 := Decidable.not_not.1 h2
  subst h2
  obtain ⟨M, N, q1, q2, q3, q4, q5, q6, q7, q8, q9, q10, q11, X, ex, q12, q13, q14⟩ := alg (parse_right (unhide HA)) (parse_right (unhide HBq))
  have Q1 := hide q1
  have Q2 := hide q2
  have Q3 := hide q3
  have Q4 := hide q4
  have Q5 := hide q5
  have Q6 := hide q6
  have Q7 := hide q7
  have Q8 := hide q8
  have Q9 := hide q9
  have Q10 := hide q10
  have Q11 := hide q11
  have Q12 := hide q12
  have Q13 := hide q13
  have Q14 := hide q14
  have RA := hide (parse_right (unhide HA))
  clear q1 q2 q3 q4 q5 q6 q7 q8 q9 q10 q11 q12 q13 q14 HA HBq
  have C4 := hide (Meet_any aA _ cA _ aB _ cB _ w3 (unhide LA3) (unhide LB3))
  rw [unhide Q1] at C4
  go_wp2_with fail
  refine (unhide C4).mono ?_
  rintro e w4 ⟨aM, cM, rfl, o4, b4⟩
  have LA4 := hide ((unhide LA3).below b4)
  have LB4 := hide ((unhide LB3).below b4)
  have HB4 := hide (bel2 (unhide HB3) b4)
  have LM4 : Hid (Lst w4 aM M.length M) := hide (o4.lst (small_len (unhide Q4)) (small_names (unhide Q4)))
  clear b4 C4 o4 LA3 LB3 HB3
  have C5 := hide (Minus_any aA _ cA _ aB _ cB _ w4 (unhide LA4) (unhide LB4))
  rw [unhide Q2] at C5
  go_wp2_with fail
  refine (unhide C5).mono ?_
  rintro e w5 ⟨aN, cN, rfl, o5, b5⟩
  have LA5 := hide ((unhide LA4).below b5)
  have LB5 := hide ((unhide LB4).below b5)
  have LM5 := hide ((unhide LM4).below b5)
  have HB5 := hide (bel2 (unhide HB4) b5)
  have LN5 : Hid (Lst w5 aN N.length N) := hide (o5.lst (small_len (unhide Q5)) (small_names (unhide Q5)))
  clear b5 C5 o5 LA4 LB4 LM4 HB4
  have C6 := hide (Meet_any aB _ cB _ aA _ cA _ w5 (unhide LB5) (unhide LA5))
  rw [unhide Q3] at C6
  go_wp2_with fail
  refine (unhide C6).mono ?_
  rintro e w6 ⟨aW, cW, rfl, o6, b6⟩
  have LA6 := hide ((unhide LA5).below b6)
  have LB6 := hide ((unhide LB5).below b6)
  have LM6 := hide ((unhide LM5).below b6)
  have LN6 := hide ((unhide LN5).below b6)
  have HB6 := hide (bel2 (unhide HB5) b6)
  have LW6 : Hid (Lst w6 aW M.length M) := hide (o6.lst (small_len (unhide Q4)) (small_names (unhide Q4)))
  clear b6 C6 o6 LA5 LB5 LM5 LN5 HB5
  have C7 := hide (Join_any aM _ cM _ aN _ cN _ w6 (unhide LM6) (unhide LN6))
  rw [unhide Q6] at C7
  go_wp2_with fail
  refine (unhide C7).mono ?_
  rintro e w7 ⟨aJ, cJ, rfl, o7, b7⟩
  have LA7 := hide ((unhide LA6).below b7)
  have LB7 := hide ((unhide LB6).below b7)
  have LM7 := hide ((unhide LM6).below b7)
  have LN7 := hide ((unhide LN6).below b7)
  have LW7 := hide ((unhide LW6).below b7)
  have HB7 := hide (bel2 (unhide HB6) b7)
  have LJ7 : Hid (Lst w7 aJ A.length A) := hide (o7.lst (small_len (unhide RA)) (small_names (unhide RA)))
  clear b7 C7 o7 LA6 LB6 LM6 LN6 LW6 HB6
  have C8 := hide (same_lst cM cW (unhide LM7) (unhide LW7))
  rw [show decide (M = M) = true by simp] at C8
  go_wp2_with fail
  refine (unhide C8).mono ?_
  rintro e w8 ⟨rfl, b8⟩
  have LA8 := hide ((unhide LA7).below b8)
  have LB8 := hide ((unhide LB7).below b8)
  have LM8 := hide ((unhide LM7).below b8)
  have LN8 := hide ((unhide LN7).below b8)
  have LW8 := hide ((unhide LW7).below b8)
  have LJ8 := hide ((unhide LJ7).below b8)
  have HB8 := hide (bel2 (unhide HB7) b8)
  clear b8 C8 LA7 LB7 LM7 LN7 LW7 LJ7 HB7
  have C9 := hide (same_lst cJ cA (unhide LJ8) (unhide LA8))
  rw [show decide (A = A) = true by simp] at C9
  go_wp2_with fail
  refine (unhide C9).mono ?_
  rintro e w9 ⟨rfl, b9⟩
  have LA9 := hide ((unhide LA8).below b9)
  have LB9 := hide ((unhide LB8).below b9)
  have LM9 := hide ((unhide LM8).below b9)
  have LN9 := hide ((unhide LN8).below b9)
  have LW9 := hide ((unhide LW8).below b9)
  have LJ9 := hide ((unhide LJ8).below b9)
  have HB9 := hide (bel2 (unhide HB8) b9)
  clear b9 C9 LA8 LB8 LM8 LN8 LW8 LJ8 HB8
  clear LW9
  clear LJ9
  have HX2 : X.length ≤ 2147483648 ∧ ∀ x ∈ X, x.length ≤ 9223372036854775807 := by
    rcases unhide Q14 with ⟨_, h⟩ | ⟨_, h, _⟩
    · subst h; simp
    · exact ⟨small_len h, small_names h⟩
  have C10 := hide (Join_any aA _ cA _ aB _ cB _ w9 (unhide LA9) (unhide LB9))
  rw [unhide Q12] at C10
  go_wp2_with fail
  refine (unhide C10).mono ?_
  rintro e w10 ⟨aX, cX, rfl, o10, b10⟩
  have LA10 := hide ((unhide LA9).below b10)
  have LB10 := hide ((unhide LB9).below b10)
  have LM10 := hide ((unhide LM9).below b10)
  have LN10 := hide ((unhide LN9).below b10)
  have HB10 := hide (bel2 (unhide HB9) b10)
  have LX10 : Hid (Lst w10 aX X.length X) := hide (o10.lst HX2.1 HX2.2)
  clear b10 C10 o10 LA9 LB9 LM9 LN9 HB9
  have C11 := hide (Join_any aB _ cB _ aA _ cA _ w10 (unhide LB10) (unhide LA10))
  rw [unhide Q13] at C11
  go_wp2_with fail
  refine (unhide C11).mono ?_
  rintro e w11 ⟨aY, cY, rfl, o11, b11⟩
  have LA11 := hide ((unhide LA10).below b11)
  have LB11 := hide ((unhide LB10).below b11)
  have LM11 := hide ((unhide LM10).below b11)
  have LN11 := hide ((unhide LN10).below b11)
  have LX11 := hide ((unhide LX10).below b11)
  have HB11 := hide (bel2 (unhide HB10) b11)
  have LY11 : Hid (Lst w11 aY X.length X) := hide (o11.lst HX2.1 HX2.2)
  clear b11 C11 o11 LA10 LB10 LM10 LN10 LX10 HB10
  have C12 := hide (same_lst cX cY (unhide LX11) (unhide LY11))
  rw [show decide (X = X) = true by simp] at C12
  go_wp2_with fail
  refine (unhide C12).mono ?_
  rintro e w12 ⟨rfl, b12⟩
  have LA12 := hide ((unhide LA11).below b12)
  have LB12 := hide ((unhide LB11).below b12)
  have LM12 := hide ((unhide LM11).below b12)
  have LN12 := hide ((unhide LN11).below b12)
  have LX12 := hide ((unhide LX11).below b12)
  have LY12 := hide ((unhide LY11).below b12)
  have HB12 := hide (bel2 (unhide HB11) b12)
  clear b12 C12 LA11 LB11 LM11 LN11 LX11 LY11 HB11
  clear LY12
  clear HX2
  by_cases h3 : ex = 61
  · subst h3
    have C13 := hide (Within_any aM _ cM _ aA _ cA _ w12 (unhide LM12) (unhide LA12))
    rw [unhide Q7] at C13
    go_wp2_with fail
    refine (unhide C13).mono ?_
    rintro e w13 ⟨rfl, b13⟩
    have LA13 := hide ((unhide LA12).below b13)
    have LB13 := hide ((unhide LB12).below b13)
    have LM13 := hide ((unhide LM12).below b13)
    have LN13 := hide ((unhide LN12).below b13)
    have LX13 := hide ((unhide LX12).below b13)
    have HB13 := hide (bel2 (unhide HB12) b13)
    clear b13 C13 LA12 LB12 LM12 LN12 LX12 HB12
    have C14 := hide (Within_any aM _ cM _ aB _ cB _ w13 (unhide LM13) (unhide LB13))
    rw [unhide Q8] at C14
    go_wp2_with fail
    refine (unhide C14).mono ?_
    rintro e w14 ⟨rfl, b14⟩
    have LA14 := hide ((unhide LA13).below b14)
    have LB14 := hide ((unhide LB13).below b14)
    have LM14 := hide ((unhide LM13).below b14)
    have LN14 := hide ((unhide LN13).below b14)
    have LX14 := hide ((unhide LX13).below b14)
    have HB14 := hide (bel2 (unhide HB13) b14)
    clear b14 C14 LA13 LB13 LM13 LN13 LX13 HB13
    have C15 := hide (Meet_any aN _ cN _ aB _ cB _ w14 (unhide LN14) (unhide LB14))
    rw [unhide Q9] at C15
    go_wp2_with fail
    refine (unhide C15).mono ?_
    rintro e w15 ⟨aR, cR, rfl, o15, b15⟩
    have LA15 := hide ((unhide LA14).below b15)
    have LB15 := hide ((unhide LB14).below b15)
    have LM15 := hide ((unhide LM14).below b15)
    have LN15 := hide ((unhide LN14).below b15)
    have LX15 := hide ((unhide LX14).below b15)
    have HB15 := hide (bel2 (unhide HB14) b15)
    clear b15 C15 o15 LA14 LB14 LM14 LN14 LX14 HB14
    have hlen := unhide Q11
    have ilen : wrap64 ((M.length : Int) + (N.length : Int)) = (A.length : Int) := by rw [IntWalk.wrap64_in _ (by have := (right_small (unhide RA)).1; omega)]; omega
    have CW := hide (Within_any aA _ cA _ aB _ cB _ w15 (unhide LA15) (unhide LB15))
    rw [unhide Q10] at CW
    by_cases hN : ¬ N.length = 0
    · rw [show (N.length == 0) = false by rw [beq_eq_false_iff_ne]; exact hN] at CW
      have iN : ((N.length : Int) == 0) = false := by rw [beq_eq_false_iff_ne]; omega
      clear hlen hN
      go_wp2_with (first | (go_at_call 24; refine (unhide CW).mono ?_; rintro e wz ⟨rfl, bz⟩; have HZ := hide bz; clear bz))
      go_ret
      refine ⟨ret_bool ?_, bel2 (unhide HB15) (unhide HZ)⟩
      rfl
    have hN := Decidable.not_not.1 hN
    rw [show (N.length == 0) = true by rw [hN]; rfl] at CW
    have iN : ((N.length : Int) == 0) = true := by rw [hN]; rfl
    clear hlen hN
    go_wp2_with (first | (go_at_call 24; refine (unhide CW).mono ?_; rintro e wz ⟨rfl, bz⟩; have HZ := hide bz; clear bz))
    go_ret
    refine ⟨ret_bool ?_, bel2 (unhide HB15) (unhide HZ)⟩
    rfl
  obtain ⟨h4, r1, r2, r3, r4, r5⟩ := (unhide Q14).resolve_left (fun q => h3 q.1)
  subst h4
  have R1 := hide r1
  have R2 := hide r2
  have R3 := hide r3
  have R4 := hide r4
  have R5 := hide r5
  clear h3 r1 r2 r3 r4 r5 Q14
  have C13 := hide (Within_any aA _ cA _ aX _ cX _ w12 (unhide LA12) (unhide LX12))
  rw [unhide R2] at C13
  go_wp2_with fail
  refine (unhide C13).mono ?_
  rintro e w13 ⟨rfl, b13⟩
  have LA13 := hide ((unhide LA12).below b13)
  have LB13 := hide ((unhide LB12).below b13)
  have LM13 := hide ((unhide LM12).below b13)
  have LN13 := hide ((unhide LN12).below b13)
  have LX13 := hide ((unhide LX12).below b13)
  have HB13 := hide (bel2 (unhide HB12) b13)
  clear b13 C13 LA12 LB12 LM12 LN12 LX12 HB12
  have C14 := hide (Within_any aB _ cB _ aX _ cX _ w13 (unhide LB13) (unhide LX13))
  rw [unhide R3] at C14
  go_wp2_with fail
  refine (unhide C14).mono ?_
  rintro e w14 ⟨rfl, b14⟩
  have LA14 := hide ((unhide LA13).below b14)
  have LB14 := hide ((unhide LB13).below b14)
  have LM14 := hide ((unhide LM13).below b14)
  have LN14 := hide ((unhide LN13).below b14)
  have LX14 := hide ((unhide LX13).below b14)
  have HB14 := hide (bel2 (unhide HB13) b14)
  clear b14 C14 LA13 LB13 LM13 LN13 LX13 HB13
  have C15 := hide (Minus_any aX _ cX _ aB _ cB _ w14 (unhide LX14) (unhide LB14))
  rw [unhide R4] at C15
  go_wp2_with fail
  refine (unhide C15).mono ?_
  rintro e w15 ⟨aK, cK, rfl, o15, b15⟩
  have LA15 := hide ((unhide LA14).below b15)
  have LB15 := hide ((unhide LB14).below b15)
  have LM15 := hide ((unhide LM14).below b15)
  have LN15 := hide ((unhide LN14).below b15)
  have LX15 := hide ((unhide LX14).below b15)
  have HB15 := hide (bel2 (unhide HB14) b15)
  have LK15 : Hid (Lst w15 aK N.length N) := hide (o15.lst (small_len (unhide Q5)) (small_names (unhide Q5)))
  clear b15 C15 o15 LA14 LB14 LM14 LN14 LX14 HB14
  have C16 := hide (same_lst cK cN (unhide LK15) (unhide LN15))
  rw [show decide (N = N) = true by simp] at C16
  go_wp2_with fail
  refine (unhide C16).mono ?_
  rintro e w16 ⟨rfl, b16⟩
  have LA16 := hide ((unhide LA15).below b16)
  have LB16 := hide ((unhide LB15).below b16)
  have LM16 := hide ((unhide LM15).below b16)
  have LN16 := hide ((unhide LN15).below b16)
  have LX16 := hide ((unhide LX15).below b16)
  have LK16 := hide ((unhide LK15).below b16)
  have HB16 := hide (bel2 (unhide HB15) b16)
  clear b16 C16 LA15 LB15 LM15 LN15 LX15 LK15 HB15
  clear LK16
  have hlx := unhide R5
  have ilx : wrap64 ((B.length : Int) + (N.length : Int)) = (X.length : Int) := by rw [IntWalk.wrap64_in _ (by have := (right_small (unhide R1)).1; omega)]; omega
  clear hlx
  have C17 := hide (Within_any aM _ cM _ aA _ cA _ w16 (unhide LM16) (unhide LA16))
  rw [unhide Q7] at C17
  go_wp2_with fail
  refine (unhide C17).mono ?_
  rintro e w17 ⟨rfl, b17⟩
  have LA17 := hide ((unhide LA16).below b17)
  have LB17 := hide ((unhide LB16).below b17)
  have LM17 := hide ((unhide LM16).below b17)
  have LN17 := hide ((unhide LN16).below b17)
  have LX17 := hide ((unhide LX16).below b17)
  have HB17 := hide (bel2 (unhide HB16) b17)
  clear b17 C17 LA16 LB16 LM16 LN16 LX16 HB16
  have C18 := hide (Within_any aM _ cM _ aB _ cB _ w17 (unhide LM17) (unhide LB17))
  rw [unhide Q8] at C18
  go_wp2_with fail
  refine (unhide C18).mono ?_
  rintro e w18 ⟨rfl, b18⟩
  have LA18 := hide ((unhide LA17).below b18)
  have LB18 := hide ((unhide LB17).below b18)
  have LM18 := hide ((unhide LM17).below b18)
  have LN18 := hide ((unhide LN17).below b18)
  have LX18 := hide ((unhide LX17).below b18)
  have HB18 := hide (bel2 (unhide HB17) b18)
  clear b18 C18 LA17 LB17 LM17 LN17 LX17 HB17
  have C19 := hide (Meet_any aN _ cN _ aB _ cB _ w18 (unhide LN18) (unhide LB18))
  rw [unhide Q9] at C19
  go_wp2_with fail
  refine (unhide C19).mono ?_
  rintro e w19 ⟨aR, cR, rfl, o19, b19⟩
  have LA19 := hide ((unhide LA18).below b19)
  have LB19 := hide ((unhide LB18).below b19)
  have LM19 := hide ((unhide LM18).below b19)
  have LN19 := hide ((unhide LN18).below b19)
  have LX19 := hide ((unhide LX18).below b19)
  have HB19 := hide (bel2 (unhide HB18) b19)
  clear b19 C19 o19 LA18 LB18 LM18 LN18 LX18 HB18
  have hlen := unhide Q11
  have ilen : wrap64 ((M.length : Int) + (N.length : Int)) = (A.length : Int) := by rw [IntWalk.wrap64_in _ (by have := (right_small (unhide RA)).1; omega)]; omega
  have CW := hide (Within_any aA _ cA _ aB _ cB _ w19 (unhide LA19) (unhide LB19))
  rw [unhide Q10] at CW
  by_cases hN : ¬ N.length = 0
  · rw [show (N.length == 0) = false by rw [beq_eq_false_iff_ne]; exact hN] at CW
    have iN : ((N.length : Int) == 0) = false := by rw [beq_eq_false_iff_ne]; omega
    clear hlen hN
    go_wp2_with (first | (go_at_call 24; refine (unhide CW).mono ?_; rintro e wz ⟨rfl, bz⟩; have HZ := hide bz; clear bz))
    go_ret
    refine ⟨ret_bool ?_, bel2 (unhide HB19) (unhide HZ)⟩
    rfl
  have hN := Decidable.not_not.1 hN
  rw [show (N.length == 0) = true by rw [hN]; rfl] at CW
  have iN : ((N.length : Int) == 0) = true := by rw [hN]; rfl
  clear hlen hN
  go_wp2_with (first | (go_at_call 24; refine (unhide CW).mono ?_; rintro e wz ⟨rfl, bz⟩; have HZ := hide bz; clear bz))
  go_ret
  refine ⟨ret_bool ?_, bel2 (unhide HB19) (unhide HZ)⟩
  rfl
end Go.Proofs.YtknlafgaagimjaaDoor
