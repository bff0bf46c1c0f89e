import Derived.Test.YthddilflldkmfaaDoorAwak
namespace Go.Proofs.YthddilflldkmfaaDoor
open Go.RowKit Go.Lib
def addN (n m : Nat) : Nat := if 2147483647 < n + m then 2147483648 else n + m
theorem addN_le {n m : Nat} (h : addN n m ≤ 2147483647) : n + m ≤ 2147483647 ∧ addN n m = n + m := by
  unfold addN at h ⊢
  split at h
  · omega
  · rename_i q; rw [if_neg q]; omega
theorem addN_bd (n m : Nat) : addN n m ≤ 2147483648 := by unfold addN; split <;> omega
theorem add_any (n m : Nat) (w : World) (hn : n ≤ 9223372036854775807) (_hm : m ≤ 9223372036854775807) :
    Calls Tryd.prog 22 #[.int .i64 n, .int .i64 m] w fun e w' => e = .returned (.int .i64 (addN n m)) ∧ w' = w := by
  by_cases h : 2147483647 < n + m
  · have e : addN n m = 2147483648 := by simp [addN, h]
    rw [e]
    go_enter Tryd.func22, Tryd.ntmps22
    go_wp2
    go_ret
    exact ⟨rfl, rfl⟩
  · have e : addN n m = n + m := by simp [addN, h]
    rw [e]
    go_enter Tryd.func22, Tryd.ntmps22
    go_wp2
    go_ret
    exact ⟨by push_cast; rfl, rfl⟩
set_option maxHeartbeats 2000000 in
set_option maxRecDepth 8000 in
theorem letters_walk (s t : List UInt8) (w : World) (hs : s.length ≤ 9223372036854775807) (ht : t.length ≤ 9223372036854775807) :
    Calls Tryd.prog 6 #[.string ⟨s.toArray⟩, .string ⟨t.toArray⟩] w fun e w' => e = .returned (.bool true) ∧ Below w.heap.size w w' := by
  by_cases hb : 2147483647 < addN s.length (addN s.length t.length)
  · have hb1 := addN_bd s.length t.length
    have hd : decide ((2147483647 : Int) < (addN s.length (addN s.length t.length) : Int)) = true := by simp; omega
    go_enter Tryd.func6, Tryd.ntmps6
    go_wp2_with fail
    refine (add_any s.length t.length w hs ht).mono ?_
    rintro e w1 ⟨rfl, rfl⟩
    go_wp2_with fail
    refine (add_any s.length (addN s.length t.length) w1 hs (by omega)).mono ?_
    rintro e w2 ⟨rfl, rfl⟩
    generalize addN s.length (addN s.length t.length) = N at *
    go_wp2
    go_ret
    exact ⟨rfl, Below.refl _ _⟩
  · have hb1 := addN_le (n := s.length) (m := addN s.length t.length) (by omega)
    have hb2 := addN_le (n := s.length) (m := t.length) (by omega)
    have hd : ¬ (2147483647 : Int) < (addN s.length (addN s.length t.length) : Int) := by omega
    have hsl : s.length ≤ 17592186044416 := by omega
    have htl : t.length ≤ 17592186044416 := by omega
    have hb3 := addN_bd s.length t.length
    clear hb hb1 hb2
    obtain ⟨x1, y1, h1⟩ := told2_is (d64 t)
    obtain ⟨x2, y2, h2⟩ := told2_is (dStd t)
    obtain ⟨x3, y3, h3⟩ := told2_is (refun4 t)
    have H1 := hide h1
    have H2 := hide h2
    have H3 := hide h3
    clear h1 h2 h3
    go_enter Tryd.func6, Tryd.ntmps6
    go_wp2_with fail
    refine (add_any s.length t.length w hs ht).mono ?_
    rintro e w1 ⟨rfl, rfl⟩
    go_wp2_with fail
    refine (add_any s.length (addN s.length t.length) w1 hs (by omega)).mono ?_
    rintro e w2 ⟨rfl, rfl⟩
    generalize addN s.length (addN s.length t.length) = N at *
    clear hb3
    go_wp2_with fail
    refine (awake_any w2).mono ?_
    rintro e w3 ⟨rfl, hb3⟩
    go_wp2_with fail
    refine (frombase64_any t w3 htl).mono ?_
    rintro e w4 ⟨rfl, q4⟩
    rw [unhide H1]
    have hb4 := hb3.trans (q4.mono hb3.size)
    clear hb3 q4
    go_wp2_with fail
    refine (reffrombase64_any t w4 htl).mono ?_
    rintro e w5 ⟨rfl, q5⟩
    rw [unhide H1]
    have hb5 := hb4.trans (q5.mono hb4.size)
    clear hb4 q5 H1
    go_wp2_with fail
    refine (fromstandard_any t w5 htl).mono ?_
    rintro e w6 ⟨rfl, q6⟩
    rw [unhide H2]
    have hb6 := hb5.trans (q6.mono hb5.size)
    clear hb5 q6
    go_wp2_with fail
    refine (reffromstandard_any t w6 htl).mono ?_
    rintro e w7 ⟨rfl, q7⟩
    rw [unhide H2]
    have hb7 := hb6.trans (q7.mono hb6.size)
    clear hb6 q7 H2
    go_wp2_with fail
    refine (fromhex_any t w7 htl).mono ?_
    rintro e w8 ⟨rfl, q8⟩
    rw [unhide H3]
    have hb8 := hb7.trans (q8.mono hb7.size)
    clear hb7 q8
    go_wp2_with fail
    refine (reffromhex2_any t w8 htl).mono ?_
    rintro e w9 ⟨rfl, q9⟩
    rw [unhide H3]
    have hb9 := hb8.trans (q9.mono hb8.size)
    clear hb8 q9 H3
    go_wp2_with fail
    refine (base64_any s w9 hsl).mono ?_
    rintro e w10 ⟨rfl, q10⟩
    have hb10 := hb9.trans (q10.mono hb9.size)
    clear hb9 q10
    go_wp2_with fail
    refine (refbase64_any s w10 hsl).mono ?_
    rintro e w11 ⟨rfl, q11⟩
    have hb11 := hb10.trans (q11.mono hb10.size)
    clear hb10 q11
    generalize enc names false s = X1 at *
    go_wp2_with fail
    refine (standard_any s w11 hsl).mono ?_
    rintro e w12 ⟨rfl, q12⟩
    have hb12 := hb11.trans (q12.mono hb11.size)
    clear hb11 q12
    go_wp2_with fail
    refine (refstandard_any s w12 hsl).mono ?_
    rintro e w13 ⟨rfl, q13⟩
    have hb13 := hb12.trans (q13.mono hb12.size)
    clear hb12 q13
    generalize enc mail true s = X2 at *
    go_wp2_with fail
    refine (hex_any s w13 hsl).mono ?_
    rintro e w14 ⟨rfl, q14⟩
    have hb14 := hb13.trans (q14.mono hb13.size)
    clear hb13 q14
    go_wp2_with fail
    refine (refhex2_any s w14 hsl).mono ?_
    rintro e w15 ⟨rfl, q15⟩
    have hb15 := hb14.trans (q15.mono hb14.size)
    clear hb14 q15
    generalize encH s = X3 at *
    go_wp2
    go_ret
    exact ⟨rfl, hb15⟩
end Go.Proofs.YthddilflldkmfaaDoor
