import Derived.Test.YtknlafgaagimjaaDoorRfc
import Derived.Test.YtknlafgaagimjaaDoorLnt
import Derived.Laws.AppendOwn
namespace Go.Proofs.YtknlafgaagimjaaDoor
open Go.RowKit Go.Lib
set_option maxHeartbeats 4000000 in
theorem told_any (a : Option Addr) (n cap : Nat) (a2 : Option Addr) (n2 cap2 : Nat) (l : List Bs) (w : World) (h : Lsr w a n l) (h2 : Lsr w a2 n2 l) :
    Calls Tryd.prog 16 #[.slice a n cap, .slice a2 n2 cap2] w fun e w' => e = .returned (.bool true) ∧ Below w.heap.size w w' := by
  have C1 := hide (Print_any a n cap l w h.sts (by have := h.few; omega) h.lst.len)
  have C2 := hide (fun W (hb : Below w.heap.size w W) => refPrint_any a2 n2 cap2 l W (h2.below hb))
  have C3 := hide (fun W (hb : Below w.heap.size w W) => (h.below hb).lst.right cap)
  have C4 := hide (fun W (hb : Below w.heap.size w W) => refRight_any a2 n2 cap2 l W (h2.below hb))
  generalize print l = pr at *
  generalize right l = r at *
  obtain ⟨t, q⟩ := pr
  clear h h2
  go_enter Tryd.func16, Tryd.ntmps16
  go_wp2_with fail
  refine (unhide C1).mono ?_
  rintro e w1 ⟨rfl, b1⟩
  have D2 := hide (unhide C2 w1 b1)
  have HB := hide b1
  clear b1 C1 C2
  go_wp2_with fail
  refine (unhide D2).mono ?_
  rintro e w2 ⟨rfl, b2⟩
  have hb2 := (unhide HB).trans (b2.mono (unhide HB).size)
  have D3 := hide (unhide C3 w2 hb2)
  have HB2 := hide hb2
  clear b2 hb2 C3 D2 HB
  go_wp2_with fail
  refine (unhide D3).mono ?_
  rintro e w3 ⟨rfl, b3⟩
  have hb3 := (unhide HB2).trans (b3.mono (unhide HB2).size)
  have D4 := hide (unhide C4 w3 hb3)
  have HB3 := hide hb3
  clear b3 hb3 C4 D3 HB2
  go_wp2_with fail
  refine (unhide D4).mono ?_
  rintro e w4 ⟨rfl, b4⟩
  have HB4 := hide ((unhide HB3).trans (b4.mono (unhide HB3).size))
  clear b4 HB3
  go_wp2
  go_ret
  refine ⟨ret_bool ?_, unhide HB4⟩
  simp
/-- What stands in the list when its owner has written it over. -/
def over (l o : List Bs) : List Bs := o.take (min o.length l.length) ++ l.drop (min o.length l.length)
theorem over_len (l o : List Bs) : (over l o).length = l.length := by simp [over]; omega
theorem over_mid (l o : List Bs) : o.take (min o.length l.length) ++ (mid l 4).drop (min o.length l.length) = mid (over l o) 4 := by
  unfold over mid
  rw [List.drop_append_of_le_length (by omega), List.append_assoc]
theorem lnt_of {l : List Bs} (h : ∀ x ∈ l, x.length ≤ 9223372036854775806) : Lnt l := fun j => by
  by_cases hj : j < l.length
  · have e : l.getD j [] = l[j] := by simp [hj]
    rw [e]
    exact h _ (List.getElem_mem hj)
  · have e : l.getD j [] = [] := by simp [List.getElem?_eq_none (Nat.le_of_not_lt hj)]
    rw [e]
    simp
theorem over_mem {l o : List Bs} {x : Bs} (h : x ∈ over l o) : x ∈ l ∨ x ∈ o := by
  rcases List.mem_append.1 h with q | q
  · exact .inr (List.mem_of_mem_take q)
  · exact .inl (List.mem_of_mem_drop q)
theorem sum_lnt {l : List Bs} (h : lsum l ≤ 9223372036854775806) : ∀ x ∈ l, x.length ≤ 9223372036854775806 := fun _ hx => Nat.le_trans (lsum_mem hx) h
/-- now = append(now, in...), where now is nil. -/
theorem appendS {ops : Array Oper} {rest : List Oper} {o : Oper} {a : Act} {w : World} {Q : Exit → Act → World → Prop} (hgd : o.guard = none) (s x : Operand)
    (ho : o.op = .call { callee := .builtin .append, args := #[s, x], argTypes := #[24, 24] }) (hs : a.eval s = .slice none 0 0) (g n cap : Nat) (l : List Bs) (hx : a.eval x = .slice (some ⟨g, 0, none⟩) n cap) (hp : Sts w (some ⟨g, 0, none⟩) n l) (hn : n ≤ 2147483648)
    (h : ∀ p c w', Own w.heap.size w' (.slice p n c) l → Below w.heap.size w w' → wpList Tryd.prog ops Q rest (a.put o.dst (.slice p n c)) w') : wpList Tryd.prog ops Q (o :: rest) a w := by
  obtain ⟨i0, hi, hz0, hz1, hz2⟩ := info_parts info9
  refine wpList_append_own w hgd s x 24 ho w.heap.size 9 i0 (.string ⟨#[]⟩) 1 16 Tryd.underlying24 hi hz0 hz1 hz2 rfl (by decide) (.slice none 0 0) 0 [] hs (World.ownsRow_nil _ _ _ _) ⟨g, 0, none⟩ n cap (l.map fun x => S x) hx (by rw [List.length_map, ← hp.1]; omega) ?_ (by intro v hv; obtain ⟨_, _, rfl⟩ := List.mem_map.1 hv; rfl) (by unfold maxLen; omega) (by omega) (Nat.le_refl _) ?_
  · intro j v hv
    have hj : j < n := by have := (List.getElem?_eq_some_iff.1 hv).1; rw [List.length_map, ← hp.1] at this; exact this
    obtain ⟨p, o, e, hc⟩ := hp.2 (by omega)
    cases e
    have hadd : (⟨g, 0, none⟩ : Addr).add j = ⟨g, 0 + j, none⟩ := by unfold Addr.add; split <;> simp_all
    rw [hadd, hc j hj, ← hv]
    have hjl : j < l.length := by rw [← hp.1]; exact hj
    simp [hjl]
  · intro v' w' ho' hg' _
    have hO : Own w.heap.size w' v' l := by
      unfold Own
      rw [← hp.1]
      simpa using ho'
    obtain ⟨p, c, rfl⟩ := hO.form
    have hB : Below w.heap.size w w' := (Below.refl _ _).grown hg' (Nat.le_refl _) (fun k e => by cases e)
    have := h p c w' (by rw [hp.1]; exact hO) hB
    rw [← hp.1]
    exact this
set_option maxHeartbeats 8000000 in
set_option maxRecDepth 8000 in
theorem tells_any (a : Option Addr) (cap : Nat) (l : List Bs) (a2 : Option Addr) (cap2 : Nat) (o : List Bs) (w : World) (hp : Sts w a l.length l) (hn : l.length ≤ 9223372036854775806) (hL : Lns l) (hc : a = none → cap = 0) (hp2 : Sts w a2 o.length o) (hn2 : o.length ≤ 9223372036854775806) (hL2 : Lns o) (hc2 : a2 = none → cap2 = 0) :
    Calls Tryd.prog 4 #[.slice a l.length cap, .slice a2 o.length cap2] w fun e w' => e = .returned (.bool true) ∧ Below w.heap.size w w' := by
  have HW1 := hide (weighs_any a l.length cap l w hp hn hL)
  have HW2 := hide (weighs_any a2 o.length cap2 o w hp2 hn2 hL2)
  have HP := hide hp
  have HP2 := hide hp2
  have HC := hide hc
  have HC2 := hide hc2
  clear hp hL hp2 hL2 hc hc2
  go_enter Tryd.func4, Tryd.ntmps4
  go_wp2_with fail
  refine (unhide HW1).mono ?_
  rintro e w0 ⟨r, rfl, hr0, hr1, rfl⟩
  go_wp2_with fail
  refine (unhide HW2).mono ?_
  rintro e w00 ⟨r2, rfl, hq0, hq1, rfl⟩
  have HS := hide (ads_any r r2 (by omega) (by omega) w00)
  have hle := @ads_le r r2
  generalize ads r r2 = N0 at *
  go_wp2_with fail
  refine (unhide HS).mono ?_
  rintro e w1 ⟨rfl, rfl⟩
  clear HW1 HW2 HS
  by_cases hbig : ¬ N0 ≤ 2147483647
  · have hgt : decide (2147483647 < (N0 : Int)) = true := by rw [decide_eq_true_eq]; omega
    go_wp2
    go_ret
    exact ⟨rfl, Below.refl _ _⟩
  have hbig := Decidable.not_not.1 hbig
  have hgt : decide (2147483647 < (N0 : Int)) = false := by rw [decide_eq_false_iff_not]; omega
  have h3 := hle hbig
  have hl1 := hr1 h3.1
  have hl2 := hq1 h3.2.1
  have hll : l.length ≤ 2147483647 := by omega
  have hoo : o.length ≤ 2147483647 := by omega
  have HLl := hide (sum_lnt (l := l) (by omega))
  have HLo := hide (sum_lnt (l := o) (by omega))
  clear hle h3 hl1 hl2 hr1 hq1 hr0 hq0
  have LA := hide (awake_any w1)
  go_wp2_with fail
  refine (unhide LA).mono ?_
  rintro e w2 ⟨rfl, b2⟩
  have HB2 := hide b2
  have HB2' := hide b2
  have P2 := hide ((unhide HP).below b2)
  have O2 := hide ((unhide HP2).below b2)
  have CL := hide (lent_any a l.length cap l w2 (unhide P2) (unhide HC) (by omega))
  clear b2 LA HP HP2 hgt
  go_wp2_with fail
  refine (unhide CL).mono ?_
  rintro e w3 ⟨rfl, hb3, b3⟩
  have HK3 := hide hb3
  have HB3 := hide (bel2 (unhide HB2) b3)
  have P3 := hide ((unhide P2).below b3)
  have O3 := hide ((unhide O2).below b3)
  have CT := hide (told_any (some ⟨w2.heap.size, 0, none⟩) l.length (l.length + 4) a l.length cap l w3 ⟨hb3.part, by omega, lnt_of (unhide HLl)⟩ ⟨unhide P3, by omega, lnt_of (unhide HLl)⟩)
  clear b3 hb3 HB2 P2 O2 CL
  go_wp2_with fail
  refine (unhide CT).mono ?_
  rintro e w4 ⟨rfl, b4⟩
  have HK4 := hide ((unhide HK3).keep b4)
  have HB4 := hide (bel2 (unhide HB3) b4)
  have P4 := hide ((unhide P3).below b4)
  have O4 := hide ((unhide O3).below b4)
  have CW := hide (whole_any w2.heap.size a l.length cap l w4 (unhide HK4) (unhide P4) (by omega))
  clear b4 HK3 HB3 P3 O3 CT
  go_wp2_with fail
  refine (unhide CW).mono ?_
  rintro e w5 ⟨rfl, b5⟩
  have HK5 := hide ((unhide HK4).keep b5)
  have HB5 := hide (bel2 (unhide HB4) b5)
  have O5 := hide ((unhide O4).below b5)
  have hg1 : w1.heap.size ≤ w2.heap.size := (unhide HB2').size
  clear b5 HK4 HB4 P4 O4 CW
  go_wp2_with (first
    | (refine copyS rfl (.tmp 31) (.tmp 32) rfl w2.heap.size l.length (l.length + 4) a2 o.length cap2 (by rfl) (by rfl) (mid l 4) o (unhide HK5) (unhide O5) (unhide HC2) (by rw [mid_len l 4 (by omega)]; omega) ?_; intro w6 hb6 k6; rw [over_mid] at hb6; have HK6 := hide hb6; have HO6 := hide k6; have P6 := hide (show Sts w6 (some ⟨w2.heap.size, 0, none⟩) l.length (over l o) by rw [← over_len l o]; exact hb6.part); clear hb6 k6)
    | (at_builtin; refine appendS rfl (.tmp 34) (.tmp 35) rfl (by rfl) w2.heap.size l.length (l.length + 4) (over l o) (by rfl) (unhide P6) (by omega) ?_; intro p7 c7 w7 ho7 b7; have HO7 := hide ho7; have HB7 := hide b7; clear ho7 b7)
    | fail)
  have HB6 := hide ((unhide HO6).below (unhide HB5) (unhide HB5).size (fun k e => by omega))
  have HLv := hide (lnt_of (l := over l o) (fun x hx => (over_mem hx).elim (unhide HLl x) (unhide HLo x)))
  have CU := hide (told_any (some ⟨w2.heap.size, 0, none⟩) l.length (l.length + 4) p7 l.length c7 (over l o) w7 ⟨(unhide P6).below (unhide HB7), by omega, unhide HLv⟩ ⟨by have := (unhide HO7).sts; rw [over_len] at this; exact this, by omega, unhide HLv⟩)
  refine (unhide CU).mono ?_
  rintro e w8 ⟨rfl, b8⟩
  have HB8 := hide (bel2 (bel2 (unhide HB6) (unhide HB7)) b8)
  clear b8
  go_wp2
  go_ret
  exact ⟨rfl, unhide HB8⟩
end Go.Proofs.YtknlafgaagimjaaDoor
