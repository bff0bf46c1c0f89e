import Derived.Test.YtfaahjbkdlkmjaaDoorJdc
/- Jot: a value is printed. -/
namespace Go.Proofs.YtfaahjbkdlkmjaaDoor
open Go Go.RowKit Go.Lib Go.Sort
set_option linter.unusedVariables false
set_option linter.unusedSimpArgs false
theorem itoa_short (n : Int) (h : -9007199254740991 ≤ n ∧ n ≤ 9007199254740991) : (itoa n).length ≤ 17 := by
  have e : n = (n.toNat : Int) ∨ n = -((-n).toNat : Int) := by omega
  rcases e with e | e
  · have := (itoa_len n.toNat 15 (by omega)).1
    rw [← e] at this
    omega
  · have := (itoa_len (-n).toNat 15 (by omega)).2
    rw [← e] at this
    omega
theorem below_grow {w : World} (k : Nat) (os : Array Obj) : Below w.heap.size w (grow (w.drewN k) os) := by
  have hd : ∀ q, Below w.heap.size w (w.drewN q) := fun q => below_drewNq (Below.refl _ _) q
  refine (hd k).trans ⟨rfl, rfl, rfl, ?_, fun j hj => ?_⟩
  · simp [Go.Sort.grow]
  · simp only [Go.Sort.grow]
    exact Array.getElem?_append_left hj
set_option maxHeartbeats 16000000 in
set_option maxRecDepth 20000 in
theorem value_step (k n : Int) (t : Bs) (ns : List Bs) (xs : List J) (IH : ∀ x ∈ xs, PvC x) : PvC (.mk k n t ns xs) := by
  intro na nc xa xc W0 B b l w hE hj hm hw h0 hB hp hl
  rw [JP] at hj
  obtain ⟨ht, hn, hx, hxs⟩ := hj
  rw [may, Bool.and_eq_true] at hm
  obtain ⟨ho, hmL⟩ := hm
  show Calls Tryd.prog 13 #[.pointer (some ⟨b, 0, none⟩), vJ k n t na ns.length nc xa xs.length xc] w (PrO B b l (pt (.mk k n t ns xs)) w)
  have hst0 : St W0 B b l w w := St.of h0 hw hp hl (Below.refl _ _) (OthersKept.refl _ _ _) hB
  have hsta := hst0.alloc (.cells #[I k, I n, S t, .slice na ns.length nc, .slice xa xs.length xc] 25)
  have HO := hide (open_any k n t na ns nc xa xs.length xc _ (hE.below hsta.b0) (hn.keep hsta.b0) hx ht)
  unfold vJ at HO ⊢
  have HSA := hide hsta
  have HIH := hide IH
  have HE := hide hE
  have HXS := hide hxs
  have HN := hide hn
  have HM := hide hmL
  have HOW := hide ho
  clear hst0 hsta IH hE hn hxs hmL ho hw hB hp
  go_enter Tryd.func13, Tryd.ntmps13
  go_wp2_with fail
  refine (unhide HO).mono ?_
  rintro e w1 ⟨h1, he⟩
  rw [unhide HOW, if_pos rfl] at he
  subst he
  have HS := hide ((unhide HSA).quiet h1)
  clear h1 HO HSA
  rcases own_kinds (unhide HOW) with rfl | rfl | rfl | rfl | rfl | rfl | rfl
  · rw [show opn 0 n t na ns.length nc xa xs.length xc = .iface 64 (.agg #[]) from rfl, show pt (.mk 0 n t ns xs) = [110, 117, 108, 108] by rw [pt]; rfl]
    have t64 := ta_64_64
    have hs2 := (unhide HS).alloc (.cells #[] 64)
    have HP := hide (put_any B b l [110, 117, 108, 108] _ hs2.pr hs2.bs (by decide) hl)
    have HS2 := hide hs2
    clear hs2 HS
    go_wp2_with fail
    refine (unhide HP).mono ?_
    rintro e w3 hq
    rcases hq.cases with ⟨hf, rfl, g1, g2, g3⟩ | ⟨hf, rfl, g2⟩
    · go_wp2_with fail
      go_end0
      exact PrO.ok hf ⟨rfl, g1, (unhide HS2).be.trans g2, (unhide HS2).ok.trans g3⟩
    · go_wp2_with fail
      exact ⟨rfl, PrO.bad hf ⟨rfl, (unhide HS2).be.trans g2⟩⟩
  · rw [show opn 1 n t na ns.length nc xa xs.length xc = .iface 66 (.bool false) from rfl, show pt (.mk 1 n t ns xs) = [102, 97, 108, 115, 101] by rw [pt]; rfl]
    have t64 := ta_66_64
    have t66 := ta_66_66
    have HF := hide (Tryd.strconv_FormatBool false w1)
    have HP := hide (put_any B b l [102, 97, 108, 115, 101] _ (unhide HS).pr (unhide HS).bs (by decide) hl)
    go_wp2_with fail
    refine (unhide HF).mono ?_
    rintro e w2 ⟨rfl, hw2⟩
    rw [hw2]
    clear hw2 w2 HF
    go_wp2_with fail
    refine (unhide HP).mono ?_
    rintro e w3 hq
    rcases hq.cases with ⟨hf, rfl, g1, g2, g3⟩ | ⟨hf, rfl, g2⟩
    · go_wp2_with fail
      go_end0
      exact PrO.ok hf ⟨rfl, g1, (unhide HS).be.trans g2, (unhide HS).ok.trans g3⟩
    · go_wp2_with fail
      exact ⟨rfl, PrO.bad hf ⟨rfl, (unhide HS).be.trans g2⟩⟩
  · rw [show opn 2 n t na ns.length nc xa xs.length xc = .iface 66 (.bool true) from rfl, show pt (.mk 2 n t ns xs) = [116, 114, 117, 101] by rw [pt]; rfl]
    have t64 := ta_66_64
    have t66 := ta_66_66
    have HF := hide (Tryd.strconv_FormatBool true w1)
    have HP := hide (put_any B b l [116, 114, 117, 101] _ (unhide HS).pr (unhide HS).bs (by decide) hl)
    go_wp2_with fail
    refine (unhide HF).mono ?_
    rintro e w2 ⟨rfl, hw2⟩
    rw [hw2]
    clear hw2 w2 HF
    go_wp2_with fail
    refine (unhide HP).mono ?_
    rintro e w3 hq
    rcases hq.cases with ⟨hf, rfl, g1, g2, g3⟩ | ⟨hf, rfl, g2⟩
    · go_wp2_with fail
      go_end0
      exact PrO.ok hf ⟨rfl, g1, (unhide HS).be.trans g2, (unhide HS).ok.trans g3⟩
    · go_wp2_with fail
      exact ⟨rfl, PrO.bad hf ⟨rfl, (unhide HS).be.trans g2⟩⟩
  · rw [show opn 3 n t na ns.length nc xa xs.length xc = .iface 68 (I n) from rfl, show pt (.mk 3 n t ns xs) = itoa n by rw [pt]; rfl]
    have t64 := ta_68_64
    have t66 := ta_68_66
    have t68 := ta_68_68
    have hb : -9007199254740991 ≤ n ∧ n ≤ 9007199254740991 := by
      have := unhide HOW
      rw [own_3, Bool.and_eq_true] at this
      exact of_decide_eq_true this.2
    have HF := hide (Tryd.strconv_Itoa n (by omega) (by omega) w1 ((unhide HE).below (unhide HS).b0).pow)
    go_wp2_with fail
    refine (unhide HF).mono ?_
    rintro e w2 ⟨rfl, kq, os, hw2⟩
    have hs2 := (unhide HS).quiet (w' := w2) (by rw [hw2]; exact below_grow kq os)
    have HP := hide (put_any B b l (itoa n) _ hs2.pr hs2.bs (by have := itoa_short n hb; omega) hl)
    have HS2 := hide hs2
    clear hs2 hw2 HF HS
    go_wp2_with fail
    refine (unhide HP).mono ?_
    rintro e w3 hq
    rcases hq.cases with ⟨hf, rfl, g1, g2, g3⟩ | ⟨hf, rfl, g2⟩
    · go_wp2_with fail
      go_end0
      exact PrO.ok hf ⟨rfl, g1, (unhide HS2).be.trans g2, (unhide HS2).ok.trans g3⟩
    · go_wp2_with fail
      exact ⟨rfl, PrO.bad hf ⟨rfl, (unhide HS2).be.trans g2⟩⟩
  · rw [show opn 4 n t na ns.length nc xa xs.length xc = .iface 70 (S t) from rfl, show pt (.mk 4 n t ns xs) = quo t by rw [pt]; rfl]
    have t64 := ta_70_64
    have t66 := ta_70_66
    have t68 := ta_70_68
    have t70 := ta_70_70
    have HP := hide (quoted_any B b l t _ (unhide HS).pr (unhide HS).bs ht hl)
    go_wp2_with fail
    refine (unhide HP).mono ?_
    rintro e w3 hq
    rcases hq.cases with ⟨hf, rfl, g1, g2, g3⟩ | ⟨hf, rfl, g2⟩
    · go_wp2_with fail
      go_end0
      exact PrO.ok hf ⟨rfl, g1, (unhide HS).be.trans g2, (unhide HS).ok.trans g3⟩
    · go_wp2_with fail
      exact ⟨rfl, PrO.bad hf ⟨rfl, (unhide HS).be.trans g2⟩⟩
  · rw [show opn 5 n t na ns.length nc xa xs.length xc = .iface 59 (.slice xa xs.length xc) from rfl, show pt (.mk 5 n t ns xs) = 91 :: ptL true xs ++ [93] by rw [pt]; rfl]
    have t64 := ta_59_64
    have t66 := ta_59_66
    have t68 := ta_59_68
    have t70 := ta_59_70
    have t59 := ta_59_59
    have HP := hide (list_step xs (unhide HIH) xa xc W0 B b l w1 (unhide HE) hx (unhide HXS) (unhide HM) (unhide HS).b0 h0 (unhide HS).bs (unhide HS).pr hl)
    go_wp2_with fail
    refine (unhide HP).mono ?_
    rintro e w3 hq
    rcases hq.cases with ⟨hf, rfl, g1, g2, g3⟩ | ⟨hf, rfl, g2⟩
    · go_wp2_with fail
      go_end0
      exact PrO.ok hf ⟨rfl, g1, (unhide HS).be.trans g2, (unhide HS).ok.trans g3⟩
    · go_wp2_with fail
      exact ⟨rfl, PrO.bad hf ⟨rfl, (unhide HS).be.trans g2⟩⟩
  · rw [show opn 6 n t na ns.length nc xa xs.length xc = .iface 61 (.agg #[.slice na ns.length nc, .slice xa xs.length xc]) from rfl, show pt (.mk 6 n t ns xs) = 123 :: ptO true ns xs ++ [125] by rw [pt]; rfl]
    have t64 := ta_61_64
    have t66 := ta_61_66
    have t68 := ta_61_68
    have t70 := ta_61_70
    have t59 := ta_61_59
    have t61 := ta_61_61
    have hnl : ns.length = xs.length := by
      have := unhide HOW
      rw [own_6, Bool.and_eq_true] at this
      have := this.2
      unfold nmsOK at this
      simp only [Bool.and_eq_true, decide_eq_true_eq] at this
      exact this.2
    have hs2 := (unhide HS).alloc (.cells #[.slice na ns.length nc, .slice xa xs.length xc] 61)
    have HP := hide (obj_step ns xs (unhide HIH) na nc xa xc W0 B b l _ (unhide HE) (unhide HN) hnl (unhide HXS) (unhide HM) hs2.b0 h0 hs2.bs hs2.pr hl)
    have HS2 := hide hs2
    clear hs2 HS hnl
    go_wp2_with fail
    refine (unhide HP).mono ?_
    rintro e w3 hq
    rcases hq.cases with ⟨hf, rfl, g1, g2, g3⟩ | ⟨hf, rfl, g2⟩
    · go_wp2_with fail
      go_end0
      exact PrO.ok hf ⟨rfl, g1, (unhide HS2).be.trans g2, (unhide HS2).ok.trans g3⟩
    · go_wp2_with fail
      exact ⟨rfl, PrO.bad hf ⟨rfl, (unhide HS2).be.trans g2⟩⟩
theorem value_any : ∀ j : J, PvC j
  | .mk k n t ns xs => value_step k n t ns xs (fun x hx => value_any x)
termination_by j => SizeOf.sizeOf j
decreasing_by
  have := List.sizeOf_lt_of_mem hx
  simp_wf
  omega
end Go.Proofs.YtfaahjbkdlkmjaaDoor
