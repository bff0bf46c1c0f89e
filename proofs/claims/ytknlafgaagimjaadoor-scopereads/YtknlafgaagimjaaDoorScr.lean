import Derived.Test.YtknlafgaagimjaaDoorCls
import Derived.Test.YtknlafgaagimjaaDoorScn
namespace Go.Proofs.YtknlafgaagimjaaDoor
open Go.RowKit Go.Lib
theorem parse_small (s : Bs) : (parse s).1.length ≤ 8 ∧ ∀ x ∈ (parse s).1, x.length ≤ 16 := by
  obtain ⟨u, e, h⟩ : ∃ u e, parse s = (u, e) := ⟨_, _, rfl⟩
  rw [h]
  rcases parse_err h with q | ⟨q, _⟩
  · subst q
    have hr := parse_right h
    exact ⟨(right_small hr).1, fun x hx => nm_len ((right_iff.1 hr).1 x hx)⟩
  · subst q
    simp
theorem OutP.lst {w : World} {s : Bs} {e : Ending} {w' : World} (h : OutP w (parse s) e w') : ∃ a cap, e = .returned (.tuple #[.slice a (parse s).1.length cap, .int .i64 ((parse s).2 : Int)]) ∧ Own w.heap.size w' (.slice a (parse s).1.length cap) (parse s).1 ∧ Lst w' a (parse s).1.length (parse s).1 ∧ Below w.heap.size w w' := by
  obtain ⟨a, cap, h1, h2, h3⟩ := h
  have hs := parse_small s
  exact ⟨a, cap, h1, h2, h2.lst (by omega) (fun x hx => by have := hs.2 x hx; omega), h3⟩
/-- What the lists are that came out. -/
def Ans (ask : List Bs) (ps : List (Value × List Bs)) : Prop := ∀ j, j < ps.length → (ps.getD j (undef, [])).2 = (parse (ask.getD j [])).1
theorem Ans.snoc {ask : List Bs} {ps : List (Value × List Bs)} (h : Ans ask ps) (v : Value) : Ans ask (ps ++ [(v, (parse (ask.getD ps.length [])).1)]) := by
  intro j hj
  rw [List.length_append, List.length_singleton] at hj
  by_cases e : j < ps.length
  · have := h j e
    rw [List.getD_eq_getElem?_getD, List.getElem?_append_left e, ← List.getD_eq_getElem?_getD]
    exact this
  · have : j = ps.length := by omega
    subst this
    simp
set_option maxHeartbeats 16000000 in
set_option maxRecDepth 16000 in
theorem reads_any (s t : Bs) (w : World) (hs : s.length ≤ 9223372036854775807) (ht : t.length ≤ 9223372036854775807) :
    Calls Tryd.prog 3 #[S s, S t] w fun e w' => e = .returned (.bool true) ∧ Below w.heap.size w w' := by
  have HS := hide (addsUp_any s.length t.length hs ht w)
  by_cases hbig : ¬ ((if s.length ≤ 2147483647 ∧ t.length ≤ 2147483647 then s.length + t.length else 2147483648) ≤ 2147483647)
  · generalize (if s.length ≤ 2147483647 ∧ t.length ≤ 2147483647 then s.length + t.length else 2147483648) = N0 at *
    have hgt : decide (2147483647 < (N0 : Int)) = true := by rw [decide_eq_true_eq]; omega
    go_enter Tryd.func3, Tryd.ntmps3
    go_wp2_with fail
    refine (unhide HS).mono ?_
    rintro e w0 ⟨rfl, rfl⟩
    go_wp2
    go_ret
    exact ⟨rfl, Below.refl _ _⟩
  have hle := Decidable.not_not.1 hbig
  have hs32 : s.length < 4294967281 := by have := big_le hle; omega
  have ht32 : t.length < 4294967281 := by have := big_le hle; omega
  generalize (if s.length ≤ 2147483647 ∧ t.length ≤ 2147483647 then s.length + t.length else 2147483648) = N0 at *
  have hgt : decide (2147483647 < (N0 : Int)) = false := by rw [decide_eq_false_iff_not]; omega
  obtain ⟨ask, hask⟩ : ∃ ask : List Bs, ask = [s, s, t, s] := ⟨_, rfl⟩
  have HA4 := hide (show ask.length = 4 by rw [hask]; rfl)
  have HAL := hide (show ∀ j, (ask.getD j []).length < 4294967281 from fun j => by
    rw [hask]
    match j with
    | 0 => exact hs32
    | 1 => exact hs32
    | 2 => exact ht32
    | 3 => exact hs32
    | (j + 4) => simp)
  have HAC := hide (show cellsS ask = #[S s, S s, S t, S s] by rw [hask]; rfl)
  clear hbig hle hs32 ht32 hask
  go_enter Tryd.func3, Tryd.ntmps3
  go_wp2_with fail
  refine (unhide HS).mono ?_
  rintro e w0 ⟨rfl, rfl⟩
  have CA := hide (awake_any w0)
  go_wp2_with fail
  refine (unhide CA).mono ?_
  rintro e w1 ⟨rfl, b1⟩
  have HB1 := hide b1
  have ST0 := hide (show Sts (w1.alloc (.cells #[S s, S s, S t, S s] 9)) (some ⟨w1.heap.size, 0, none⟩) 4 ask by have := sts_new w1 ask; rw [unhide HAC, unhide HA4] at this; exact this)
  have HBA := hide (bal w1 (.cells #[S s, S s, S t, S s] 9))
  clear b1 CA HS hgt
  go_wp2
  obtain ⟨W0, hW0⟩ : ∃ W0, W0 = w1.alloc (.cells #[S s, S s, S t, S s] 9) := ⟨_, rfl⟩
  rw [← hW0] at ST0 HBA ⊢
  clear hW0
  have hW1 := (unhide HBA).size
  go_loopw [7, 8] (fun lv i wq => ∃ (k : Nat) (ps : List (Value × List Bs)), k ≤ 4 ∧ i = .int .i64 k ∧ ps.length = k ∧ Ans ask ps ∧ Prs W0.heap.size ps wq ∧ Seq W0.heap.size 24 wq lv (ps.map Prod.fst) ∧ Below W0.heap.size W0 wq) (fun _ i _ => 4 - (Go.RowKit.intOf i).toNat)
  case atStart => exact ⟨0, [], by omega, rfl, rfl, fun j hj => by simp at hj, Prs.nil _ _, Seq.nil _ _ _, Below.refl _ _⟩
  case round =>
    obtain ⟨k, ps, hk, rfl, hpl, hans, hprs, hseq, hbel⟩ := hrel
    obtain ⟨pl, cl, hlv⟩ := hseq.len
    rw [List.length_map, hpl] at hlv
    subst hlv
    have HB := hide hbel
    have hzB := hbel.size
    by_cases hlt : k < 4
    · obtain ⟨p, o, e1, hpl2, hcw⟩ := (unhide ST0).at hlt
      cases e1
      rw [Nat.zero_add] at hcw
      have hc0 := (hbel.cell (p := ⟨w1.heap.size, k, none⟩) hpl2).trans hcw
      have HCW := hide hcw
      have hlt' : (k : Int) < 4 := by omega
      have HANS := hide (hans.snoc (ask := ask))
      rw [hpl] at HANS
      have HPRS := hide hprs
      have HSEQ := hide hseq
      have HPL := hide hpl
      have hql := unhide HAL k
      have CP := hide (Parse_any (ask.getD k []) wr hql)
      have CR := hide (fun W => refParse_any (ask.getD k []) W hql)
      have CL := hide (fun e W W' => @OutP.lst W (ask.getD k []) e W')
      clear hans hprs hseq hbel hcw hpl
      generalize ask.getD k [] = q at *
      generalize parse q = pq at *
      obtain ⟨A, ea⟩ := pq
      go_wp2_with fail
      refine (unhide CP).mono ?_
      intro e w2 ho
      obtain ⟨aA, cA, rfl, oA, lA, b2⟩ := unhide CL e wr w2 ho
      have HPS2 := hide ((unhide HPRS).snoc hzB oA b2)
      have HLA := hide lA
      have HSQ2 := hide ((unhide HSEQ).below b2)
      have HB2 := hide ((unhide HB).trans (b2.mono hzB))
      have hzB2 := (unhide HB2).size
      have hc1 := ((unhide HB2).cell (p := ⟨w1.heap.size, k, none⟩) hpl2).trans (unhide HCW)
      clear ho oA lA b2 CP HPRS HSEQ HB
      have CR2 := hide (unhide CR w2)
      go_wp2_with fail
      refine (unhide CR2).mono ?_
      intro e w3 ho
      obtain ⟨aR, cR, rfl, oR, lR, b3⟩ := unhide CL e w2 w3 ho
      have HPS3 := hide ((unhide HPS2).below b3)
      have CS := hide (same_lst cA cR ((unhide HLA).below b3) lR)
      rw [show decide (A = A) = true by simp] at CS
      have HSQ3 := hide ((unhide HSQ2).below b3)
      have HB3 := hide ((unhide HB2).trans (b3.mono hzB2))
      have hzB3 := (unhide HB3).size
      clear ho oR lR b3 CR CR2 HPS2 HSQ2 HB2 CL HLA
      go_wp2_with fail
      refine (unhide CS).mono ?_
      rintro e w4 ⟨rfl, b4⟩
      have HPS4 := hide ((unhide HPS3).below b4)
      have HSQ4 := hide ((unhide HSQ3).below b4)
      have HB4 := hide ((unhide HB3).trans (b4.mono hzB3))
      have hzB4 := (unhide HB4).size
      clear b4 CS HPS3 HSQ3 HB3
      go_wp2_with (first
        | (at_builtin; refine pushV rfl (.tmp 63) (.tmp 65) rfl (.slice pl k cl) (ps.map Prod.fst) [.slice aA A.length cA] (by rfl) w4 _ (by rfl) (unhide HSQ4) (by intro u hu; rw [List.mem_singleton.1 hu]; rfl) (by rfl) (by rw [List.length_map, unhide HPL]; simp; omega) hzB4 ?_; intro v5 w5 hs5 hg5; have HS5 := hide hs5; have HG5 := hide hg5; clear hs5 hg5)
        | fail)
      have ba := bal w4 (.cells #[.slice aA A.length cA] 24)
      have hp5 := ((unhide HPS4).below ba).grown ((unhide HSQ4).below ba) (unhide HG5)
      have hb5 := ((unhide HB4).trans (ba.mono hzB4)).grown (unhide HG5) (by simp; omega) (fun j hj => (unhide HSQ4).high j hj)
      refine ⟨⟨k + 1, ps ++ [(.slice aA A.length cA, A)], by omega, by go_num, by simp [unhide HPL], unhide HANS _, hp5, by simpa using unhide HS5, hb5⟩, by simp [Go.RowKit.intOf]; omega⟩
    · have hk4 : k = 4 := by omega
      have hd : ¬ (k : Int) < 4 := by omega
      have hne : ps ≠ [] := by intro e; rw [e] at hpl; simp at hpl; omega
      obtain ⟨G, cg, hG, hrows⟩ := rows_of hprs hseq hne
      rw [hpl, hk4] at hrows
      rw [hpl] at hG
      cases hG
      have HROW := hide hrows
      have HANS := hide hans
      have HPL := hide hpl
      clear hans hprs hseq hbel hpl hne hrows
      subst hk4
      obtain ⟨W9, hW9⟩ : ∃ W9, W9 = wr := ⟨_, rfl⟩
      subst hW9
      go_wp2
      go_loopw [14] (fun i wq => ∃ j : Nat, j ≤ 4 ∧ i = .int .i64 j ∧ Below W9.heap.size W9 wq) (fun i _ => 4 - (Go.RowKit.intOf i).toNat)
      case atStart => exact ⟨0, by omega, rfl, Below.refl _ _⟩
      case round =>
        obtain ⟨j, hj, rfl, hbq⟩ := hrel
        have HBQ := hide hbq
        by_cases hlt : j < 4
        · obtain ⟨p, o, e1, hpl2, hcw⟩ := (unhide ST0).at hlt
          cases e1
          rw [Nat.zero_add] at hcw
          have hbw := (unhide HB).trans (hbq.mono hzB)
          have hc0 := (hbw.cell (p := ⟨w1.heap.size, j, none⟩) hpl2).trans hcw
          have hlt' : (j : Int) < 4 := by omega
          have hrq := (unhide HROW).below hbq
          have hrow := hrq.row j hlt
          have hcell := hrq.cell j hlt
          have hA : (ps.getD j (undef, [])).2 = (parse (ask.getD j [])).1 := unhide HANS j (by rw [unhide HPL]; exact hlt)
          rw [hA] at hrow
          obtain ⟨pv, cv, hv, hst⟩ := hrow.fls
          rw [hv] at hcell
          have hGl := hrq.ltG
          have hql := unhide HAL j
          have hps := parse_small (ask.getD j [])
          have CR := hide (refParse_any (ask.getD j []) wr hql)
          have CL := hide (fun e W W' => @OutP.lst W (ask.getD j []) e W')
          have HST := hide hst
          have HCL := hide hcell
          clear hbq hbw hcw hrq hrow hA hv hst hcell
          generalize ask.getD j [] = q at *
          generalize parse q = pq at *
          obtain ⟨A, ea⟩ := pq
          go_wp2_with fail
          refine (unhide CR).mono ?_
          intro e w2 ho
          obtain ⟨aR, cR, rfl, oR, lR, b2⟩ := unhide CL e wr w2 ho
          have hcell2 := (b2.cell (p := ⟨G, j, none⟩) hGl).trans (unhide HCL)
          have CS := hide (same_any pv aR A.length A.length cv cR A A w2 ((unhide HST).below b2) lR.sts (by have := hps.1; omega) (by have := hps.1; omega))
          rw [show decide (A = A) = true by simp] at CS
          have HB2 := hide (bel2 (unhide HBQ) b2)
          clear ho oR lR b2 CR CL HST HCL
          go_wp2_with fail
          refine (unhide CS).mono ?_
          rintro e w3 ⟨rfl, b3⟩
          have HB3 := hide (bel2 (unhide HB2) b3)
          clear b3 CS
          go_wp2
          refine ⟨⟨j + 1, by omega, by go_num, unhide HB3⟩, by simp [Go.RowKit.intOf]; omega⟩
        · have hd2 : ¬ (j : Int) < 4 := by omega
          have hlen : ∀ i, i < 4 → ((fun i => (ps.getD i (undef, [])).2) i).length ≤ 100000 := fun i hi => by
            show ((ps.getD i (undef, [])).2).length ≤ 100000
            rw [unhide HANS i (by rw [unhide HPL]; exact hi)]
            have := (parse_small (ask.getD i [])).1
            omega
          have CAP := hide (apart_any W0.heap.size G 4 cl _ _ wr ((unhide HROW).below hbq) (by omega) hlen)
          have hbw := (unhide HB).trans (hbq.mono hzB)
          have HBW := hide hbw
          have hzw := hbw.size
          clear hbq hbw hlen
          go_wp2_with fail
          refine (unhide CAP).mono ?_
          rintro e w3 ⟨rfl, b3⟩
          have HB3 := hide (bel2 (bel2 (unhide HB1) (unhide HBA)) ((unhide HBW).trans b3))
          clear b3 CAP
          go_wp2
          go_ret
          exact ⟨rfl, unhide HB3⟩
end Go.Proofs.YtknlafgaagimjaaDoor
