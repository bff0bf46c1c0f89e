import Derived.Test.YthddilflldkmfaaDoorMna
import Derived.Test.YthddilflldkmfaaDoorRgm
import Derived.Test.YthddilflldkmfaaDoorRdw
namespace Go.Proofs.YthddilflldkmfaaDoor
open Go.RowKit Go.Lib
theorem inf21 : (Tryd.prog.info? 21).map (fun i => (i.zero, i.size, decide (i.bytes ≤ 8))) = some (some (.int .i32 0), 1, true) := by kernel_rfl
set_option maxHeartbeats 8000000 in
set_option maxRecDepth 8000 in
theorem many_1 (b : Nat) (v : Value) (X : List UInt8) (E z : Nat) (X2 : List UInt8) (E2 : Nat) (x : Ro) (zs : List Int) (w : World) (h : WAt b v X E w) (h2 : ZAt z X2 E2 w) (hL : Lz x zs w) (hfit : x.Fit) (hpk : pk x.nn 6 = 1) (hz : ¬ foot b v z) (hl : 0 < x.ln → ∀ g q, x.lp = some ⟨g, q, none⟩ → ¬ foot b v g ∧ g ≠ z) (hX : X.length + 8 * x.ln ≤ 70368744177664) (hX2 : X2.length + 8 * x.ln ≤ 900000000000) (hln : x.ln ≤ 1000000000) :
    Calls Tryd.prog 19 #[.pointer (some ⟨b, 0, none⟩), .pointer (some ⟨z, 0, none⟩), .agg #[.int .i64 x.kd, .int .i64 x.on, .int .i64 x.sz, .int .i64 x.nn, .string ⟨x.s.toArray⟩, .slice x.lp x.ln x.lc]] w fun e w' => e = .returned (.bool true) ∧ MTo b v z (wNums X E x.sz (zs.map (cvt 1))) (zNums X2 E2 x.sz (zs.map (cvt 1))) w w' := by
  have HW := hide h
  have HZ := hide h2
  have HL := hide hL
  have HLP := hide hl
  have HNZ := hide hz
  have hlen := hL.len
  have hPK := hide (fun W => pick_any x.nn 6 W hfit.b3.1 hfit.b3.2 (by decide) (by decide))
  rw [hpk] at hPK
  obtain ⟨cs, hcs⟩ : ∃ cs, zs.map (cvt 1) = cs := ⟨_, rfl⟩
  have hcl : cs.length = x.ln := by rw [← hcs, hlen]; simp
  have hcg : ∀ j, j < x.ln → cs.getD j 0 = cvt 1 (zs.getD j 0) := fun j hj => by
    rw [← hcs]; simp [show j < zs.length by omega]
  rw [hcs]
  have HCG := hide (And.intro hcl hcg)
  have HX := hide (And.intro hX hX2)
  have hub : b < w.heap.size := lt_of_row h.row
  have huv : ∀ q, v.ownBlock = some q → q < w.heap.size := fun q e => ((World.ownsRowF_of h.own).lt q e).2
  have HUB := hide (And.intro hub huv)
  clear h h2 hL hl hz hpk hcs hlen hfit hcl hcg hX hX2 hub huv
  go_enter Tryd.func19, Tryd.ntmps19
  go_wp2_with fail
  refine (unhide hPK _).mono ?_
  rintro e w1 ⟨rfl, rfl⟩
  clear hPK
  have hb1 : Below w.heap.size w (w.alloc (.cells #[.int .i64 x.kd, .int .i64 x.on, .int .i64 x.sz, .int .i64 x.nn, .string ⟨x.s.toArray⟩, .slice x.lp x.ln x.lc] 33)) := (Below.refl _ _).alloc (Nat.le_refl _) _
  have hc1 : (w.alloc (.cells #[.int .i64 x.kd, .int .i64 x.on, .int .i64 x.sz, .int .i64 x.nn, .string ⟨x.s.toArray⟩, .slice x.lp x.ln x.lc] 33)).heap[w.heap.size]? = some (.cells #[.int .i64 x.kd, .int .i64 x.on, .int .i64 x.sz, .int .i64 x.nn, .string ⟨x.s.toArray⟩, .slice x.lp x.ln x.lc] 33 (0, 0)) := by
    show (w.heap.push _)[w.heap.size]? = _
    simp
  generalize w.alloc (.cells #[.int .i64 x.kd, .int .i64 x.on, .int .i64 x.sz, .int .i64 x.nn, .string ⟨x.s.toArray⟩, .slice x.lp x.ln x.lc] 33) = w1 at *
  have HRO := hide (show RoAt w1 w.heap.size 0 x from ⟨by rw [cell_of_row _ _ _ _ _ _ hc1]; rfl, by rw [cell_of_row _ _ _ _ _ _ hc1]; rfl, by rw [cell_of_row _ _ _ _ _ _ hc1]; rfl, by rw [cell_of_row _ _ _ _ _ _ hc1]; rfl, by rw [cell_of_row _ _ _ _ _ _ hc1]; rfl, by rw [cell_of_row _ _ _ _ _ _ hc1]; rfl⟩)
  have HB1 := hide hb1
  have HU1 := hide (lt_of_row hc1)
  clear hb1 hc1
  go_wp2_with (refine make1 inf21 Tryd.underlying82 rfl (.tmp 144) (.tmp 144) rfl _ _ x.ln (by rfl) (by rfl) rfl rfl (by omega) ?_; intro w2 hb2 k2)
  rw [← (unhide HCG).1, ← fil_zero .i32 cs] at hb2
  have HB2 := hide ((unhide HB1).trans (k2.mono (unhide HB1).size))
  have HRO2 := hide ((unhide HRO).keep (k2.block _ (unhide HU1)))
  have HR2 := hide hb2
  have hg1 := unhide HU1
  clear hb2 k2 HRO HB1 HU1
  generalize w1.heap.size = g at *
  obtain ⟨u, hu⟩ : ∃ u, w.heap.size = u := ⟨_, rfl⟩
  rw [hu] at HRO2 hg1 ⊢
  go_loopw [12] (fun i wr => ∃ k : Nat, k ≤ x.ln ∧ i = .int .i64 k ∧ Rw 21 g (fil .i32 cs k) wr ∧ Below w.heap.size w wr ∧ RoAt wr u 0 x) (fun i _ => x.ln - (Go.RowKit.intOf i).toNat)
  case atStart => exact ⟨0, by omega, rfl, unhide HR2, unhide HB2, unhide HRO2⟩
  case round =>
    obtain ⟨k, hk, rfl, hrw, hbr, hro⟩ := hrel
    clear HR2 HB2 HRO2
    by_cases hlt : k < x.ln
    · have hlt' : (k : Int) < (x.ln : Int) := by omega
      have d5 := hro.c5
      obtain ⟨gl, ql, hlp, hlc⟩ := ((unhide HL).below hbr).cell (by omega)
      rw [hlp] at d5
      have hcell := hlc k hlt
      have hck := (unhide HCG).2 k hlt
      have hst := hide (hrw.set k (.int .i32 (cs.getD k 0)))
      rw [fil_step .i32 cs k (by have := (unhide HCG).1; omega)] at hst
      have hold := hrw.cell k
      rw [List.getElem?_eq_getElem (show k < (fil .i32 cs k).length by rw [fil_len .i32 cs k (by have := (unhide HCG).1; omega)]; have := (unhide HCG).1; omega)] at hold
      obtain ⟨v0, hv0⟩ : ∃ v0, (fil .i32 cs k)[k]'(by rw [fil_len .i32 cs k (by have := (unhide HCG).1; omega)]; have := (unhide HCG).1; omega) = v0 := ⟨_, rfl⟩
      rw [hv0] at hold
      have hfz := hrw.fz k
      have HBR := hide (hbr.setCell (p := ⟨g, k, none⟩) (by show w.heap.size ≤ g; omega) (.int .i32 (cs.getD k 0)))
      have HRO3 := hide (hro.keep (w' := wr.setCell ⟨g, k, none⟩ (.int .i32 (cs.getD k 0))) (heap_setCell_other wr ⟨g, k, none⟩ u _ (by show u ≠ g; omega)))
      generalize cs.getD k 0 = c at *
      generalize zs.getD k 0 = zk at *
      have hcv : IntKind.i32.wrap zk = c := hck.symm
      clear hrw hbr hro hv0 hlc hck
      go_wp2
      refine ⟨⟨k + 1, by omega, by go_num, unhide hst, unhide HBR, unhide HRO3⟩, ?_⟩
      simp [Go.RowKit.intOf]; omega
    · have hd : decide (k < x.ln) = false := by simp; omega
      have hlt' : ¬ (k : Int) < (x.ln : Int) := by omega
      have ek : k = x.ln := by omega
      have hzs : Zs .i32 g x.ln cs wr := by
        have e1 := (unhide HCG).1
        refine ⟨e1.symm, lt_of_row hrw, fun j hj => ?_⟩
        rw [hrw.cell, ek, ← e1, fil_at .i32 cs j (by omega)]
      have hgf : ¬ foot b v g := by
        have := (unhide HUB).1
        rintro (q | q)
        · omega
        · have := (unhide HUB).2 g q
          omega
      have huf : ¬ foot b v u := by
        have := (unhide HUB).1
        rintro (q | q)
        · omega
        · have := (unhide HUB).2 u q
          omega
      have ho0 : Only (fun _ => False) w wr := ⟨hbr.os, hbr.tape, hbr.output, hbr.size, fun q hq _ => hbr.block q hq⟩
      have HNM := hide (nums_i32 b v X E x.sz g x.ln x.ln cs wr ((unhide HW).keep ho0 (fun q => q) (fun _ _ q => q)) hzs (fun c hc => by
        obtain ⟨j, hj, e⟩ := List.getElem_of_mem hc
        have h1 := (unhide HCG).1
        have h2 := (unhide HCG).2 j (by omega)
        have e2 : cs.getD j 0 = c := by rw [List.getD_eq_getElem?_getD, List.getElem?_eq_getElem hj, e]; rfl
        rw [← e2, h2]
        refine cvt_fit _ _ ((unhide HL).fit _ ?_)
        have h3 := (unhide HL).len
        rw [List.getD_eq_getElem?_getD, List.getElem?_eq_getElem (by omega)]
        exact List.getElem_mem _) hgf (unhide HX).1)
      have HB3 := hide hbr
      have HF3 := hide (And.intro hgf huf)
      have HRW := hide (hrw)
      have HRO4 := hide (And.intro hro (block_lt_of_cell hro.c0))
      have d2 := hro.c2
      rw [Nat.zero_add] at d2
      clear hzs hgf huf ho0 hbr hrw hro
      have HEK := hide ek
      clear ek
      go_wp2_with fail
      refine (unhide HNM).mono ?_
      rintro e w3 ⟨rfl, hto⟩
      obtain ⟨v', hA, hO, hF⟩ := hto
      have HA := hide hA
      have HO := hide hO
      have HF := hide hF
      have HZ3 := hide (((unhide HZ).keep (P := fun _ => False) ⟨(unhide HB3).os, (unhide HB3).tape, (unhide HB3).output, (unhide HB3).size, fun q hq _ => (unhide HB3).block q hq⟩ (fun q => q)).keep hO (unhide HNZ))
      have HR3 := hide ((unhide HRW).keep hO (unhide HF3).1)
      rw [unhide HEK, ← (unhide HCG).1] at HR3
      have HU3 := hide (And.intro ((unhide HRO4).1.keep (hO.block u (unhide HRO4).2 (unhide HF3).2)) (Nat.lt_of_lt_of_le (unhide HRO4).2 hO.size))
      have HL3 := hide (((unhide HL).below (unhide HB3)).keepP (fun h0 gg q e hq => hO.block gg hq ((unhide HLP) h0 gg q e).1))
      clear hA hO hF HNM HRW HRO4 d2
      go_wp2
      go_loopw [8, 13] (fun ok i wq => ok = .bool true ∧ ∃ k : Nat, k ≤ x.ln ∧ i = .int .i64 k ∧ ZAt z (zNums X2 E2 x.sz (cs.take k)).1 (zNums X2 E2 x.sz (cs.take k)).2 wq ∧ Only (fun q => q = z) w3 wq) (fun _ i _ => x.ln - (Go.RowKit.intOf i).toNat)
      case atStart => exact ⟨rfl, 0, by omega, rfl, unhide HZ3, Only.refl _ _⟩
      case round =>
        clear hd hlt'
        obtain ⟨rfl, k, hk, rfl, hzq, hoq⟩ := hrel
        by_cases hlt : k < x.ln
        · have hlt' : (k : Int) < (x.ln : Int) := by omega
          have hzl := lt_of_row (unhide HZ)
          have huz : u ≠ z := by omega
          have hgz : g ≠ z := by omega
          obtain ⟨gl, ql, hlp, hlc⟩ := (unhide HL3).cell (by omega)
          have hglz := (unhide HLP (by omega) gl ql hlp).2
          have hcell : wr.cell? ⟨gl, ql + k, none⟩ = some (.int .i64 (zs.getD k 0)) := (World.cell?_of_block (hoq.block gl (block_lt_of_cell (hlc k hlt)) hglz)).trans (hlc k hlt)
          have heu := hoq.block u (unhide HU3).2 huz
          have d5 : wr.cell? ⟨u, 0 + 5, none⟩ = some (.slice (some ⟨gl, ql, none⟩) x.ln x.lc) := by rw [← hlp]; exact (World.cell?_of_block heu).trans (unhide HU3).1.c5
          have d2 : wr.cell? ⟨u, 0 + 2, none⟩ = some (.int .i64 x.sz) := (World.cell?_of_block heu).trans (unhide HU3).1.c2
          have dg : wr.cell? ⟨g, 0 + k, none⟩ = some (.int .i32 (cs.getD k 0)) := by
            rw [Nat.zero_add]
            refine (World.cell?_of_block (hoq.block g (lt_of_row (unhide HR3)) hgz)).trans ?_
            have e1 := (unhide HCG).1
            rw [(unhide HR3).cell, fil_at .i32 cs k (by omega)]
          have hck := (unhide HCG).2 k hlt
          have hcf := cvt_fit 1 _ ((unhide HL).fit (zs.getD k 0) (by have h3 := (unhide HL).len; rw [List.getD_eq_getElem?_getD, List.getElem?_eq_getElem (by omega)]; exact List.getElem_mem _))
          rw [← hck] at hcf
          have HNX := hide (zNums_next X2 E2 x.sz cs k (by have := (unhide HCG).1; omega))
          have hzlen := zNums_len X2 E2 x.sz cs k (by have := (unhide HCG).1; omega)
          have HZN := hide (fun (W : World) (q : ZAt z (zNums X2 E2 x.sz (cs.take k)).1 (zNums X2 E2 x.sz (cs.take k)).2 W) => znum_any z _ _ x.sz (cs.getD k 0) W q hcf.2 (by have := (unhide HX).2; omega))
          have HZQ := hide hzq
          have HOQ := hide hoq
          have hlu : u < wr.heap.size := Nat.lt_of_lt_of_le (unhide HU3).2 hoq.size
          have hlg : gl < wr.heap.size := block_lt_of_cell hcell
          generalize zs.getD k 0 = zk at *
          generalize cs.getD k 0 = c at *
          have hcv : IntKind.i32.wrap zk = c := hck.symm
          clear hck
          have HD5 := hide d5
          have HD2 := hide d2
          have HDG := hide dg
          have HDL := hide hcell
          clear d5 d2 dg hcell hzq hoq heu hlc hzlen
          go_wp2_with fail
          refine rmc1 g x.ln x.ln u gl ql x.ln x.lc k c zk rfl rfl rfl _ _ (show 184 ≤ 351 from by decide) rfl rfl rfl rfl (WdL 14 wr) ?h0 ?hp ?hcl ?hlate hlt hlt ?l5 ?l7 ?l10 (by rw [hcv]) ?_
          case h0 => exact WdL.start _ _
          case hp => exact fun i hi L W hW => hW.step i (by intro e; subst e; simp at hi)
          case hcl => exact fun L W hW h => hW.2 h
          case hlate => exact fun L W hW h0 => ⟨hW.1, fun _ => updl_of h0⟩
          case l5 => exact fun L W hW => (by obtain ⟨nq, rfl⟩ := hW.1; exact unhide HDG)
          case l7 => exact fun L W hW => (by obtain ⟨nq, rfl⟩ := hW.1; exact unhide HD5)
          case l10 => exact fun L W hW => (by obtain ⟨nq, rfl⟩ := hW.1; exact unhide HDL)
          intro L W _ hW
          obtain ⟨nq, hnq⟩ := hW.1
          have HZV := hide (show ZAt z (zNums X2 E2 x.sz (cs.take k)).1 (zNums X2 E2 x.sz (cs.take k)).2 W by rw [hnq]; exact unhide HZQ)
          have HOV := hide (show Only (fun q => q = z) w3 W by rw [hnq]; exact (unhide HOQ).trans (Only.drewN (fun _ => False) wr nq) (fun _ _ q => q.elim))
          have HEV := hide (show W.heap = wr.heap by rw [hnq]; rfl)
          clear hnq hW HZQ HOQ
          simp only [put_list, List.set_cons_succ, List.set_cons_zero]
          go_wp2_with fail
          have hcb : ∀ (gg j : Nat) (vv : Value), gg < wr.heap.size → gg ≠ z → wr.cell? ⟨gg, j, none⟩ = some vv → ∀ L W', WdC 10 (fun W' => ZTo z (zNums X2 E2 x.sz (cs.take (k + 1))).1 (zNums X2 E2 x.sz (cs.take (k + 1))).2 W W') W L W' → W'.cell? ⟨gg, j, none⟩ = some vv := by
            intro gg j vv hg1 hg2 hg3 L W' hW'
            rw [World.cell?_of_block (hW'.block (fun _ q => q.2) gg (by rw [unhide HEV]; exact hg1) hg2), World.cell?_of_block (show W.heap[gg]? = wr.heap[gg]? by rw [unhide HEV])]
            exact hg3
          refine rmz1 z u gl ql x.ln x.lc k x.sz c zk rfl rfl rfl _ _ (show 195 ≤ 351 from by decide) rfl rfl rfl (WdC 10 (fun W' => ZTo z (zNums X2 E2 x.sz (cs.take (k + 1))).1 (zNums X2 E2 x.sz (cs.take (k + 1))).2 W W') W) ?h0 ?hp hlt ?l2 ?l4 ?l7 (by rw [hcv]) (by rw [IntWalk.i64_in _ hcf]) ?c10 ?_
          case h0 => exact WdC.start _ _ _
          case hp => exact fun i hi L W hW => hW.pure i (by intro e; subst e; simp at hi)
          case l2 => exact hcb u _ _ hlu huz (unhide HD2)
          case l4 => exact hcb u _ _ hlu huz (unhide HD5)
          case l7 => exact hcb gl _ _ hlg hglz (unhide HDL)
          case c10 =>
            intro L W' hW' hc
            obtain ⟨n2, rfl⟩ := hW'.call hc
            refine (unhide HZN (W.drewN n2) (unhide HZV)).mono ?_
            rintro e w5 ⟨rfl, hz5⟩
            refine ⟨rfl, WdC.post ?_⟩
            rw [unhide HNX]
            exact hz5.of_drewN
          intro L W5 hall hW5
          have hp5 := hW5.done (hall 10 (by decide))
          have HZ5 := hide hp5.1
          have HO5 := hide ((unhide HOV).trans hp5.2 (fun _ _ q => q))
          clear hp5 hW5 hall hcb
          simp only [put_list, List.set_cons_succ, List.set_cons_zero]
          go_wp2
          refine ⟨⟨rfl, k + 1, by omega, by go_num, unhide HZ5, unhide HO5⟩, ?_⟩
          simp [Go.RowKit.intOf]; omega
        · have hd : decide (k < x.ln) = false := by simp; omega
          have hlt' : ¬ (k : Int) < (x.ln : Int) := by omega
          have e : cs.take k = cs := List.take_of_length_le (by have := (unhide HCG).1; omega)
          rw [e] at hzq
          have hzl := lt_of_row (unhide HZ)
          have HE := hide (show MTo b v z (wNums X E x.sz cs) (zNums X2 E2 x.sz cs) w wr from by
            have hb3 := unhide HB3
            have hO := unhide HO
            refine ⟨v', (unhide HA).keep hoq (fun q => (unhide HNZ) (.inl q.symm)) (fun q e1 e2 => ?_), hzq, ?_, fun q e1 => ?_⟩
            · rcases unhide HF q e1 with q1 | q1
              · exact (unhide HNZ) (.inr (by rw [← e2]; exact q1))
              · have := hb3.size; omega
            · have o1 : Only (fun q => foot b v q ∨ q = z) w w3 := ⟨hO.os.trans hb3.os, hO.tape.trans hb3.tape, hO.output.trans hb3.output, Nat.le_trans hb3.size hO.size, fun q hq hn => (hO.block q (Nat.lt_of_lt_of_le hq hb3.size) (fun f => hn (.inl f))).trans (hb3.block q hq)⟩
              exact o1.trans hoq (fun _ _ q => .inr q)
            · rcases unhide HF q e1 with q1 | q1
              · exact .inl q1
              · exact .inr (Nat.le_trans hb3.size q1))
          clear hzq hoq
          go_wp2
          go_ret
          exact ⟨rfl, unhide HE⟩
theorem inf2 : (Tryd.prog.info? 2).map (fun i => (i.zero, i.size, decide (i.bytes ≤ 8))) = some (some (.int .i64 0), 1, true) := by kernel_rfl
set_option maxHeartbeats 8000000 in
set_option maxRecDepth 8000 in
theorem many_2 (b : Nat) (v : Value) (X : List UInt8) (E z : Nat) (X2 : List UInt8) (E2 : Nat) (x : Ro) (zs : List Int) (w : World) (h : WAt b v X E w) (h2 : ZAt z X2 E2 w) (hL : Lz x zs w) (hfit : x.Fit) (hpk : pk x.nn 6 = 2) (hz : ¬ foot b v z) (hl : 0 < x.ln → ∀ g q, x.lp = some ⟨g, q, none⟩ → ¬ foot b v g ∧ g ≠ z) (hX : X.length + 8 * x.ln ≤ 70368744177664) (hX2 : X2.length + 8 * x.ln ≤ 900000000000) (hln : x.ln ≤ 1000000000) :
    Calls Tryd.prog 19 #[.pointer (some ⟨b, 0, none⟩), .pointer (some ⟨z, 0, none⟩), .agg #[.int .i64 x.kd, .int .i64 x.on, .int .i64 x.sz, .int .i64 x.nn, .string ⟨x.s.toArray⟩, .slice x.lp x.ln x.lc]] w fun e w' => e = .returned (.bool true) ∧ MTo b v z (wNums X E x.sz (zs.map (cvt 2))) (zNums X2 E2 x.sz (zs.map (cvt 2))) w w' := by
  have HW := hide h
  have HZ := hide h2
  have HL := hide hL
  have HLP := hide hl
  have HNZ := hide hz
  have hlen := hL.len
  have hPK := hide (fun W => pick_any x.nn 6 W hfit.b3.1 hfit.b3.2 (by decide) (by decide))
  rw [hpk] at hPK
  obtain ⟨cs, hcs⟩ : ∃ cs, zs.map (cvt 2) = cs := ⟨_, rfl⟩
  have hcl : cs.length = x.ln := by rw [← hcs, hlen]; simp
  have hcg : ∀ j, j < x.ln → cs.getD j 0 = cvt 2 (zs.getD j 0) := fun j hj => by
    rw [← hcs]; simp [show j < zs.length by omega]
  rw [hcs]
  have HCG := hide (And.intro hcl hcg)
  have HX := hide (And.intro hX hX2)
  have hub : b < w.heap.size := lt_of_row h.row
  have huv : ∀ q, v.ownBlock = some q → q < w.heap.size := fun q e => ((World.ownsRowF_of h.own).lt q e).2
  have HUB := hide (And.intro hub huv)
  clear h h2 hL hl hz hpk hcs hlen hfit hcl hcg hX hX2 hub huv
  go_enter Tryd.func19, Tryd.ntmps19
  go_wp2_with fail
  refine (unhide hPK _).mono ?_
  rintro e w1 ⟨rfl, rfl⟩
  clear hPK
  have hb1 : Below w.heap.size w (w.alloc (.cells #[.int .i64 x.kd, .int .i64 x.on, .int .i64 x.sz, .int .i64 x.nn, .string ⟨x.s.toArray⟩, .slice x.lp x.ln x.lc] 33)) := (Below.refl _ _).alloc (Nat.le_refl _) _
  have hc1 : (w.alloc (.cells #[.int .i64 x.kd, .int .i64 x.on, .int .i64 x.sz, .int .i64 x.nn, .string ⟨x.s.toArray⟩, .slice x.lp x.ln x.lc] 33)).heap[w.heap.size]? = some (.cells #[.int .i64 x.kd, .int .i64 x.on, .int .i64 x.sz, .int .i64 x.nn, .string ⟨x.s.toArray⟩, .slice x.lp x.ln x.lc] 33 (0, 0)) := by
    show (w.heap.push _)[w.heap.size]? = _
    simp
  generalize w.alloc (.cells #[.int .i64 x.kd, .int .i64 x.on, .int .i64 x.sz, .int .i64 x.nn, .string ⟨x.s.toArray⟩, .slice x.lp x.ln x.lc] 33) = w1 at *
  have HRO := hide (show RoAt w1 w.heap.size 0 x from ⟨by rw [cell_of_row _ _ _ _ _ _ hc1]; rfl, by rw [cell_of_row _ _ _ _ _ _ hc1]; rfl, by rw [cell_of_row _ _ _ _ _ _ hc1]; rfl, by rw [cell_of_row _ _ _ _ _ _ hc1]; rfl, by rw [cell_of_row _ _ _ _ _ _ hc1]; rfl, by rw [cell_of_row _ _ _ _ _ _ hc1]; rfl⟩)
  have HB1 := hide hb1
  have HU1 := hide (lt_of_row hc1)
  clear hb1 hc1
  go_wp2_with (refine make1 inf2 Tryd.underlying84 rfl (.tmp 197) (.tmp 197) rfl _ _ x.ln (by rfl) (by rfl) rfl rfl (by omega) ?_; intro w2 hb2 k2)
  rw [← (unhide HCG).1, ← fil_zero .i64 cs] at hb2
  have HB2 := hide ((unhide HB1).trans (k2.mono (unhide HB1).size))
  have HRO2 := hide ((unhide HRO).keep (k2.block _ (unhide HU1)))
  have HR2 := hide hb2
  have hg1 := unhide HU1
  clear hb2 k2 HRO HB1 HU1
  generalize w1.heap.size = g at *
  obtain ⟨u, hu⟩ : ∃ u, w.heap.size = u := ⟨_, rfl⟩
  rw [hu] at HRO2 hg1 ⊢
  go_loopw [15] (fun i wr => ∃ k : Nat, k ≤ x.ln ∧ i = .int .i64 k ∧ Rw 2 g (fil .i64 cs k) wr ∧ Below w.heap.size w wr ∧ RoAt wr u 0 x) (fun i _ => x.ln - (Go.RowKit.intOf i).toNat)
  case atStart => exact ⟨0, by omega, rfl, unhide HR2, unhide HB2, unhide HRO2⟩
  case round =>
    obtain ⟨k, hk, rfl, hrw, hbr, hro⟩ := hrel
    clear HR2 HB2 HRO2
    by_cases hlt : k < x.ln
    · have hlt' : (k : Int) < (x.ln : Int) := by omega
      have d5 := hro.c5
      obtain ⟨gl, ql, hlp, hlc⟩ := ((unhide HL).below hbr).cell (by omega)
      rw [hlp] at d5
      have hcell := hlc k hlt
      have hck := (unhide HCG).2 k hlt
      have hst := hide (hrw.set k (.int .i64 (cs.getD k 0)))
      rw [fil_step .i64 cs k (by have := (unhide HCG).1; omega)] at hst
      have hold := hrw.cell k
      rw [List.getElem?_eq_getElem (show k < (fil .i64 cs k).length by rw [fil_len .i64 cs k (by have := (unhide HCG).1; omega)]; have := (unhide HCG).1; omega)] at hold
      obtain ⟨v0, hv0⟩ : ∃ v0, (fil .i64 cs k)[k]'(by rw [fil_len .i64 cs k (by have := (unhide HCG).1; omega)]; have := (unhide HCG).1; omega) = v0 := ⟨_, rfl⟩
      rw [hv0] at hold
      have hfz := hrw.fz k
      have HBR := hide (hbr.setCell (p := ⟨g, k, none⟩) (by show w.heap.size ≤ g; omega) (.int .i64 (cs.getD k 0)))
      have HRO3 := hide (hro.keep (w' := wr.setCell ⟨g, k, none⟩ (.int .i64 (cs.getD k 0))) (heap_setCell_other wr ⟨g, k, none⟩ u _ (by show u ≠ g; omega)))
      generalize cs.getD k 0 = c at *
      generalize zs.getD k 0 = zk at *
      have hcv : c = zk := hck
      clear hck
      subst hcv
      clear hrw hbr hro hv0 hlc
      go_wp2
      refine ⟨⟨k + 1, by omega, by go_num, unhide hst, unhide HBR, unhide HRO3⟩, ?_⟩
      simp [Go.RowKit.intOf]; omega
    · have hd : decide (k < x.ln) = false := by simp; omega
      have hlt' : ¬ (k : Int) < (x.ln : Int) := by omega
      have ek : k = x.ln := by omega
      have hzs : Zs .i64 g x.ln cs wr := by
        have e1 := (unhide HCG).1
        refine ⟨e1.symm, lt_of_row hrw, fun j hj => ?_⟩
        rw [hrw.cell, ek, ← e1, fil_at .i64 cs j (by omega)]
      have hgf : ¬ foot b v g := by
        have := (unhide HUB).1
        rintro (q | q)
        · omega
        · have := (unhide HUB).2 g q
          omega
      have huf : ¬ foot b v u := by
        have := (unhide HUB).1
        rintro (q | q)
        · omega
        · have := (unhide HUB).2 u q
          omega
      have ho0 : Only (fun _ => False) w wr := ⟨hbr.os, hbr.tape, hbr.output, hbr.size, fun q hq _ => hbr.block q hq⟩
      have HNM := hide (nums_i64 b v X E x.sz g x.ln x.ln cs wr ((unhide HW).keep ho0 (fun q => q) (fun _ _ q => q)) hzs (fun c hc => by
        obtain ⟨j, hj, e⟩ := List.getElem_of_mem hc
        have h1 := (unhide HCG).1
        have h2 := (unhide HCG).2 j (by omega)
        have e2 : cs.getD j 0 = c := by rw [List.getD_eq_getElem?_getD, List.getElem?_eq_getElem hj, e]; rfl
        rw [← e2, h2]
        refine cvt_fit _ _ ((unhide HL).fit _ ?_)
        have h3 := (unhide HL).len
        rw [List.getD_eq_getElem?_getD, List.getElem?_eq_getElem (by omega)]
        exact List.getElem_mem _) hgf (unhide HX).1)
      have HB3 := hide hbr
      have HF3 := hide (And.intro hgf huf)
      have HRW := hide (hrw)
      have HRO4 := hide (And.intro hro (block_lt_of_cell hro.c0))
      have d2 := hro.c2
      rw [Nat.zero_add] at d2
      clear hzs hgf huf ho0 hbr hrw hro
      have HEK := hide ek
      clear ek
      go_wp2_with fail
      refine (unhide HNM).mono ?_
      rintro e w3 ⟨rfl, hto⟩
      obtain ⟨v', hA, hO, hF⟩ := hto
      have HA := hide hA
      have HO := hide hO
      have HF := hide hF
      have HZ3 := hide (((unhide HZ).keep (P := fun _ => False) ⟨(unhide HB3).os, (unhide HB3).tape, (unhide HB3).output, (unhide HB3).size, fun q hq _ => (unhide HB3).block q hq⟩ (fun q => q)).keep hO (unhide HNZ))
      have HR3 := hide ((unhide HRW).keep hO (unhide HF3).1)
      rw [unhide HEK, ← (unhide HCG).1] at HR3
      have HU3 := hide (And.intro ((unhide HRO4).1.keep (hO.block u (unhide HRO4).2 (unhide HF3).2)) (Nat.lt_of_lt_of_le (unhide HRO4).2 hO.size))
      have HL3 := hide (((unhide HL).below (unhide HB3)).keepP (fun h0 gg q e hq => hO.block gg hq ((unhide HLP) h0 gg q e).1))
      clear hA hO hF HNM HRW HRO4 d2
      go_wp2
      go_loopw [8, 16] (fun ok i wq => ok = .bool true ∧ ∃ k : Nat, k ≤ x.ln ∧ i = .int .i64 k ∧ ZAt z (zNums X2 E2 x.sz (cs.take k)).1 (zNums X2 E2 x.sz (cs.take k)).2 wq ∧ Only (fun q => q = z) w3 wq) (fun _ i _ => x.ln - (Go.RowKit.intOf i).toNat)
      case atStart => exact ⟨rfl, 0, by omega, rfl, unhide HZ3, Only.refl _ _⟩
      case round =>
        clear hd hlt'
        obtain ⟨rfl, k, hk, rfl, hzq, hoq⟩ := hrel
        by_cases hlt : k < x.ln
        · have hlt' : (k : Int) < (x.ln : Int) := by omega
          have hzl := lt_of_row (unhide HZ)
          have huz : u ≠ z := by omega
          have hgz : g ≠ z := by omega
          obtain ⟨gl, ql, hlp, hlc⟩ := (unhide HL3).cell (by omega)
          have hglz := (unhide HLP (by omega) gl ql hlp).2
          have hcell : wr.cell? ⟨gl, ql + k, none⟩ = some (.int .i64 (zs.getD k 0)) := (World.cell?_of_block (hoq.block gl (block_lt_of_cell (hlc k hlt)) hglz)).trans (hlc k hlt)
          have heu := hoq.block u (unhide HU3).2 huz
          have d5 : wr.cell? ⟨u, 0 + 5, none⟩ = some (.slice (some ⟨gl, ql, none⟩) x.ln x.lc) := by rw [← hlp]; exact (World.cell?_of_block heu).trans (unhide HU3).1.c5
          have d2 : wr.cell? ⟨u, 0 + 2, none⟩ = some (.int .i64 x.sz) := (World.cell?_of_block heu).trans (unhide HU3).1.c2
          have dg : wr.cell? ⟨g, 0 + k, none⟩ = some (.int .i64 (cs.getD k 0)) := by
            rw [Nat.zero_add]
            refine (World.cell?_of_block (hoq.block g (lt_of_row (unhide HR3)) hgz)).trans ?_
            have e1 := (unhide HCG).1
            rw [(unhide HR3).cell, fil_at .i64 cs k (by omega)]
          have hck := (unhide HCG).2 k hlt
          have hcf := cvt_fit 2 _ ((unhide HL).fit (zs.getD k 0) (by have h3 := (unhide HL).len; rw [List.getD_eq_getElem?_getD, List.getElem?_eq_getElem (by omega)]; exact List.getElem_mem _))
          rw [← hck] at hcf
          have HNX := hide (zNums_next X2 E2 x.sz cs k (by have := (unhide HCG).1; omega))
          have hzlen := zNums_len X2 E2 x.sz cs k (by have := (unhide HCG).1; omega)
          have HZN := hide (fun (W : World) (q : ZAt z (zNums X2 E2 x.sz (cs.take k)).1 (zNums X2 E2 x.sz (cs.take k)).2 W) => znum_any z _ _ x.sz (cs.getD k 0) W q hcf.2 (by have := (unhide HX).2; omega))
          have HZQ := hide hzq
          have HOQ := hide hoq
          have hlu : u < wr.heap.size := Nat.lt_of_lt_of_le (unhide HU3).2 hoq.size
          have hlg : gl < wr.heap.size := block_lt_of_cell hcell
          generalize zs.getD k 0 = zk at *
          generalize cs.getD k 0 = c at *
          have hcv : c = zk := hck
          clear hck
          subst hcv
          have HD5 := hide d5
          have HD2 := hide d2
          have HDG := hide dg
          have HDL := hide hcell
          clear d5 d2 dg hcell hzq hoq heu hlc hzlen
          go_wp2_with fail
          refine rmc2 g x.ln x.ln u gl ql x.ln x.lc k c  rfl rfl rfl _ _ (show 235 ≤ 351 from by decide) rfl rfl rfl rfl (WdL 13 wr) ?h0 ?hp ?hcl ?hlate hlt hlt ?l5 ?l7 ?l10  ?_
          case h0 => exact WdL.start _ _
          case hp => exact fun i hi L W hW => hW.step i (by intro e; subst e; simp at hi)
          case hcl => exact fun L W hW h => hW.2 h
          case hlate => exact fun L W hW h0 => ⟨hW.1, fun _ => updl_of h0⟩
          case l5 => exact fun L W hW => (by obtain ⟨nq, rfl⟩ := hW.1; exact unhide HDG)
          case l7 => exact fun L W hW => (by obtain ⟨nq, rfl⟩ := hW.1; exact unhide HD5)
          case l10 => exact fun L W hW => (by obtain ⟨nq, rfl⟩ := hW.1; exact unhide HDL)
          intro L W _ hW
          obtain ⟨nq, hnq⟩ := hW.1
          have HZV := hide (show ZAt z (zNums X2 E2 x.sz (cs.take k)).1 (zNums X2 E2 x.sz (cs.take k)).2 W by rw [hnq]; exact unhide HZQ)
          have HOV := hide (show Only (fun q => q = z) w3 W by rw [hnq]; exact (unhide HOQ).trans (Only.drewN (fun _ => False) wr nq) (fun _ _ q => q.elim))
          have HEV := hide (show W.heap = wr.heap by rw [hnq]; rfl)
          clear hnq hW HZQ HOQ
          simp only [put_list, List.set_cons_succ, List.set_cons_zero]
          go_wp2_with fail
          have hcb : ∀ (gg j : Nat) (vv : Value), gg < wr.heap.size → gg ≠ z → wr.cell? ⟨gg, j, none⟩ = some vv → ∀ L W', WdC 8 (fun W' => ZTo z (zNums X2 E2 x.sz (cs.take (k + 1))).1 (zNums X2 E2 x.sz (cs.take (k + 1))).2 W W') W L W' → W'.cell? ⟨gg, j, none⟩ = some vv := by
            intro gg j vv hg1 hg2 hg3 L W' hW'
            rw [World.cell?_of_block (hW'.block (fun _ q => q.2) gg (by rw [unhide HEV]; exact hg1) hg2), World.cell?_of_block (show W.heap[gg]? = wr.heap[gg]? by rw [unhide HEV])]
            exact hg3
          refine rmz2 z u gl ql x.ln x.lc k x.sz c  rfl rfl rfl _ _ (show 244 ≤ 351 from by decide) rfl rfl rfl (WdC 8 (fun W' => ZTo z (zNums X2 E2 x.sz (cs.take (k + 1))).1 (zNums X2 E2 x.sz (cs.take (k + 1))).2 W W') W) ?h0 ?hp hlt ?l2 ?l4 ?l7  ?c8 ?_
          case h0 => exact WdC.start _ _ _
          case hp => exact fun i hi L W hW => hW.pure i (by intro e; subst e; simp at hi)
          case l2 => exact hcb u _ _ hlu huz (unhide HD2)
          case l4 => exact hcb u _ _ hlu huz (unhide HD5)
          case l7 => exact hcb gl _ _ hlg hglz (unhide HDL)
          case c8 =>
            intro L W' hW' hc
            obtain ⟨n2, rfl⟩ := hW'.call hc
            refine (unhide HZN (W.drewN n2) (unhide HZV)).mono ?_
            rintro e w5 ⟨rfl, hz5⟩
            refine ⟨rfl, WdC.post ?_⟩
            rw [unhide HNX]
            exact hz5.of_drewN
          intro L W5 hall hW5
          have hp5 := hW5.done (hall 8 (by decide))
          have HZ5 := hide hp5.1
          have HO5 := hide ((unhide HOV).trans hp5.2 (fun _ _ q => q))
          clear hp5 hW5 hall hcb
          simp only [put_list, List.set_cons_succ, List.set_cons_zero]
          go_wp2
          refine ⟨⟨rfl, k + 1, by omega, by go_num, unhide HZ5, unhide HO5⟩, ?_⟩
          simp [Go.RowKit.intOf]; omega
        · have hd : decide (k < x.ln) = false := by simp; omega
          have hlt' : ¬ (k : Int) < (x.ln : Int) := by omega
          have e : cs.take k = cs := List.take_of_length_le (by have := (unhide HCG).1; omega)
          rw [e] at hzq
          have hzl := lt_of_row (unhide HZ)
          have HE := hide (show MTo b v z (wNums X E x.sz cs) (zNums X2 E2 x.sz cs) w wr from by
            have hb3 := unhide HB3
            have hO := unhide HO
            refine ⟨v', (unhide HA).keep hoq (fun q => (unhide HNZ) (.inl q.symm)) (fun q e1 e2 => ?_), hzq, ?_, fun q e1 => ?_⟩
            · rcases unhide HF q e1 with q1 | q1
              · exact (unhide HNZ) (.inr (by rw [← e2]; exact q1))
              · have := hb3.size; omega
            · have o1 : Only (fun q => foot b v q ∨ q = z) w w3 := ⟨hO.os.trans hb3.os, hO.tape.trans hb3.tape, hO.output.trans hb3.output, Nat.le_trans hb3.size hO.size, fun q hq hn => (hO.block q (Nat.lt_of_lt_of_le hq hb3.size) (fun f => hn (.inl f))).trans (hb3.block q hq)⟩
              exact o1.trans hoq (fun _ _ q => .inr q)
            · rcases unhide HF q e1 with q1 | q1
              · exact .inl q1
              · exact .inr (Nat.le_trans hb3.size q1))
          clear hzq hoq
          go_wp2
          go_ret
          exact ⟨rfl, unhide HE⟩
set_option maxHeartbeats 8000000 in
set_option maxRecDepth 8000 in
theorem many_3 (b : Nat) (v : Value) (X : List UInt8) (E z : Nat) (X2 : List UInt8) (E2 : Nat) (x : Ro) (zs : List Int) (w : World) (h : WAt b v X E w) (h2 : ZAt z X2 E2 w) (hL : Lz x zs w) (hfit : x.Fit) (hpk : pk x.nn 6 = 3) (hz : ¬ foot b v z) (hl : 0 < x.ln → ∀ g q, x.lp = some ⟨g, q, none⟩ → ¬ foot b v g ∧ g ≠ z) (hX : X.length + 8 * x.ln ≤ 70368744177664) (hX2 : X2.length + 8 * x.ln ≤ 900000000000) (hln : x.ln ≤ 1000000000) :
    Calls Tryd.prog 19 #[.pointer (some ⟨b, 0, none⟩), .pointer (some ⟨z, 0, none⟩), .agg #[.int .i64 x.kd, .int .i64 x.on, .int .i64 x.sz, .int .i64 x.nn, .string ⟨x.s.toArray⟩, .slice x.lp x.ln x.lc]] w fun e w' => e = .returned (.bool true) ∧ MTo b v z (wNums X E x.sz (zs.map (cvt 3))) (zNums X2 E2 x.sz (zs.map (cvt 3))) w w' := by
  have HW := hide h
  have HZ := hide h2
  have HL := hide hL
  have HLP := hide hl
  have HNZ := hide hz
  have hlen := hL.len
  have hPK := hide (fun W => pick_any x.nn 6 W hfit.b3.1 hfit.b3.2 (by decide) (by decide))
  rw [hpk] at hPK
  obtain ⟨cs, hcs⟩ : ∃ cs, zs.map (cvt 3) = cs := ⟨_, rfl⟩
  have hcl : cs.length = x.ln := by rw [← hcs, hlen]; simp
  have hcg : ∀ j, j < x.ln → cs.getD j 0 = cvt 3 (zs.getD j 0) := fun j hj => by
    rw [← hcs]; simp [show j < zs.length by omega]
  rw [hcs]
  have HCG := hide (And.intro hcl hcg)
  have HX := hide (And.intro hX hX2)
  have hub : b < w.heap.size := lt_of_row h.row
  have huv : ∀ q, v.ownBlock = some q → q < w.heap.size := fun q e => ((World.ownsRowF_of h.own).lt q e).2
  have HUB := hide (And.intro hub huv)
  clear h h2 hL hl hz hpk hcs hlen hfit hcl hcg hX hX2 hub huv
  go_enter Tryd.func19, Tryd.ntmps19
  go_wp2_with fail
  refine (unhide hPK _).mono ?_
  rintro e w1 ⟨rfl, rfl⟩
  clear hPK
  have hb1 : Below w.heap.size w (w.alloc (.cells #[.int .i64 x.kd, .int .i64 x.on, .int .i64 x.sz, .int .i64 x.nn, .string ⟨x.s.toArray⟩, .slice x.lp x.ln x.lc] 33)) := (Below.refl _ _).alloc (Nat.le_refl _) _
  have hc1 : (w.alloc (.cells #[.int .i64 x.kd, .int .i64 x.on, .int .i64 x.sz, .int .i64 x.nn, .string ⟨x.s.toArray⟩, .slice x.lp x.ln x.lc] 33)).heap[w.heap.size]? = some (.cells #[.int .i64 x.kd, .int .i64 x.on, .int .i64 x.sz, .int .i64 x.nn, .string ⟨x.s.toArray⟩, .slice x.lp x.ln x.lc] 33 (0, 0)) := by
    show (w.heap.push _)[w.heap.size]? = _
    simp
  generalize w.alloc (.cells #[.int .i64 x.kd, .int .i64 x.on, .int .i64 x.sz, .int .i64 x.nn, .string ⟨x.s.toArray⟩, .slice x.lp x.ln x.lc] 33) = w1 at *
  have HRO := hide (show RoAt w1 w.heap.size 0 x from ⟨by rw [cell_of_row _ _ _ _ _ _ hc1]; rfl, by rw [cell_of_row _ _ _ _ _ _ hc1]; rfl, by rw [cell_of_row _ _ _ _ _ _ hc1]; rfl, by rw [cell_of_row _ _ _ _ _ _ hc1]; rfl, by rw [cell_of_row _ _ _ _ _ _ hc1]; rfl, by rw [cell_of_row _ _ _ _ _ _ hc1]; rfl⟩)
  have HB1 := hide hb1
  have HU1 := hide (lt_of_row hc1)
  clear hb1 hc1
  go_wp2_with (refine make1 inf5 Tryd.underlying68 rfl (.tmp 246) (.tmp 246) rfl _ _ x.ln (by rfl) (by rfl) rfl rfl (by omega) ?_; intro w2 hb2 k2)
  rw [← (unhide HCG).1, ← fil_zero .u8 cs] at hb2
  have HB2 := hide ((unhide HB1).trans (k2.mono (unhide HB1).size))
  have HRO2 := hide ((unhide HRO).keep (k2.block _ (unhide HU1)))
  have HR2 := hide hb2
  have hg1 := unhide HU1
  clear hb2 k2 HRO HB1 HU1
  generalize w1.heap.size = g at *
  obtain ⟨u, hu⟩ : ∃ u, w.heap.size = u := ⟨_, rfl⟩
  rw [hu] at HRO2 hg1 ⊢
  go_loopw [18] (fun i wr => ∃ k : Nat, k ≤ x.ln ∧ i = .int .i64 k ∧ Rw 5 g (fil .u8 cs k) wr ∧ Below w.heap.size w wr ∧ RoAt wr u 0 x) (fun i _ => x.ln - (Go.RowKit.intOf i).toNat)
  case atStart => exact ⟨0, by omega, rfl, unhide HR2, unhide HB2, unhide HRO2⟩
  case round =>
    obtain ⟨k, hk, rfl, hrw, hbr, hro⟩ := hrel
    clear HR2 HB2 HRO2
    by_cases hlt : k < x.ln
    · have hlt' : (k : Int) < (x.ln : Int) := by omega
      have d5 := hro.c5
      obtain ⟨gl, ql, hlp, hlc⟩ := ((unhide HL).below hbr).cell (by omega)
      rw [hlp] at d5
      have hcell := hlc k hlt
      have hck := (unhide HCG).2 k hlt
      have hst := hide (hrw.set k (.int .u8 (cs.getD k 0)))
      rw [fil_step .u8 cs k (by have := (unhide HCG).1; omega)] at hst
      have hold := hrw.cell k
      rw [List.getElem?_eq_getElem (show k < (fil .u8 cs k).length by rw [fil_len .u8 cs k (by have := (unhide HCG).1; omega)]; have := (unhide HCG).1; omega)] at hold
      obtain ⟨v0, hv0⟩ : ∃ v0, (fil .u8 cs k)[k]'(by rw [fil_len .u8 cs k (by have := (unhide HCG).1; omega)]; have := (unhide HCG).1; omega) = v0 := ⟨_, rfl⟩
      rw [hv0] at hold
      have hfz := hrw.fz k
      have HBR := hide (hbr.setCell (p := ⟨g, k, none⟩) (by show w.heap.size ≤ g; omega) (.int .u8 (cs.getD k 0)))
      have HRO3 := hide (hro.keep (w' := wr.setCell ⟨g, k, none⟩ (.int .u8 (cs.getD k 0))) (heap_setCell_other wr ⟨g, k, none⟩ u _ (by show u ≠ g; omega)))
      generalize cs.getD k 0 = c at *
      generalize zs.getD k 0 = zk at *
      have hcv : IntKind.u8.wrap zk = c := hck.symm
      clear hrw hbr hro hv0 hlc hck
      go_wp2
      refine ⟨⟨k + 1, by omega, by go_num, unhide hst, unhide HBR, unhide HRO3⟩, ?_⟩
      simp [Go.RowKit.intOf]; omega
    · have hd : decide (k < x.ln) = false := by simp; omega
      have hlt' : ¬ (k : Int) < (x.ln : Int) := by omega
      have ek : k = x.ln := by omega
      have hzs : Zs .u8 g x.ln cs wr := by
        have e1 := (unhide HCG).1
        refine ⟨e1.symm, lt_of_row hrw, fun j hj => ?_⟩
        rw [hrw.cell, ek, ← e1, fil_at .u8 cs j (by omega)]
      have hgf : ¬ foot b v g := by
        have := (unhide HUB).1
        rintro (q | q)
        · omega
        · have := (unhide HUB).2 g q
          omega
      have huf : ¬ foot b v u := by
        have := (unhide HUB).1
        rintro (q | q)
        · omega
        · have := (unhide HUB).2 u q
          omega
      have ho0 : Only (fun _ => False) w wr := ⟨hbr.os, hbr.tape, hbr.output, hbr.size, fun q hq _ => hbr.block q hq⟩
      have HNM := hide (nums_u8 b v X E x.sz g x.ln x.ln cs wr ((unhide HW).keep ho0 (fun q => q) (fun _ _ q => q)) hzs (fun c hc => by
        obtain ⟨j, hj, e⟩ := List.getElem_of_mem hc
        have h1 := (unhide HCG).1
        have h2 := (unhide HCG).2 j (by omega)
        have e2 : cs.getD j 0 = c := by rw [List.getD_eq_getElem?_getD, List.getElem?_eq_getElem hj, e]; rfl
        rw [← e2, h2]
        refine cvt_fit _ _ ((unhide HL).fit _ ?_)
        have h3 := (unhide HL).len
        rw [List.getD_eq_getElem?_getD, List.getElem?_eq_getElem (by omega)]
        exact List.getElem_mem _) hgf (unhide HX).1)
      have HB3 := hide hbr
      have HF3 := hide (And.intro hgf huf)
      have HRW := hide (hrw)
      have HRO4 := hide (And.intro hro (block_lt_of_cell hro.c0))
      have d2 := hro.c2
      rw [Nat.zero_add] at d2
      clear hzs hgf huf ho0 hbr hrw hro
      have HEK := hide ek
      clear ek
      go_wp2_with fail
      refine (unhide HNM).mono ?_
      rintro e w3 ⟨rfl, hto⟩
      obtain ⟨v', hA, hO, hF⟩ := hto
      have HA := hide hA
      have HO := hide hO
      have HF := hide hF
      have HZ3 := hide (((unhide HZ).keep (P := fun _ => False) ⟨(unhide HB3).os, (unhide HB3).tape, (unhide HB3).output, (unhide HB3).size, fun q hq _ => (unhide HB3).block q hq⟩ (fun q => q)).keep hO (unhide HNZ))
      have HR3 := hide ((unhide HRW).keep hO (unhide HF3).1)
      rw [unhide HEK, ← (unhide HCG).1] at HR3
      have HU3 := hide (And.intro ((unhide HRO4).1.keep (hO.block u (unhide HRO4).2 (unhide HF3).2)) (Nat.lt_of_lt_of_le (unhide HRO4).2 hO.size))
      have HL3 := hide (((unhide HL).below (unhide HB3)).keepP (fun h0 gg q e hq => hO.block gg hq ((unhide HLP) h0 gg q e).1))
      clear hA hO hF HNM HRW HRO4 d2
      go_wp2
      go_loopw [8, 19] (fun ok i wq => ok = .bool true ∧ ∃ k : Nat, k ≤ x.ln ∧ i = .int .i64 k ∧ ZAt z (zNums X2 E2 x.sz (cs.take k)).1 (zNums X2 E2 x.sz (cs.take k)).2 wq ∧ Only (fun q => q = z) w3 wq) (fun _ i _ => x.ln - (Go.RowKit.intOf i).toNat)
      case atStart => exact ⟨rfl, 0, by omega, rfl, unhide HZ3, Only.refl _ _⟩
      case round =>
        clear hd hlt'
        obtain ⟨rfl, k, hk, rfl, hzq, hoq⟩ := hrel
        by_cases hlt : k < x.ln
        · have hlt' : (k : Int) < (x.ln : Int) := by omega
          have hzl := lt_of_row (unhide HZ)
          have huz : u ≠ z := by omega
          have hgz : g ≠ z := by omega
          obtain ⟨gl, ql, hlp, hlc⟩ := (unhide HL3).cell (by omega)
          have hglz := (unhide HLP (by omega) gl ql hlp).2
          have hcell : wr.cell? ⟨gl, ql + k, none⟩ = some (.int .i64 (zs.getD k 0)) := (World.cell?_of_block (hoq.block gl (block_lt_of_cell (hlc k hlt)) hglz)).trans (hlc k hlt)
          have heu := hoq.block u (unhide HU3).2 huz
          have d5 : wr.cell? ⟨u, 0 + 5, none⟩ = some (.slice (some ⟨gl, ql, none⟩) x.ln x.lc) := by rw [← hlp]; exact (World.cell?_of_block heu).trans (unhide HU3).1.c5
          have d2 : wr.cell? ⟨u, 0 + 2, none⟩ = some (.int .i64 x.sz) := (World.cell?_of_block heu).trans (unhide HU3).1.c2
          have dg : wr.cell? ⟨g, 0 + k, none⟩ = some (.int .u8 (cs.getD k 0)) := by
            rw [Nat.zero_add]
            refine (World.cell?_of_block (hoq.block g (lt_of_row (unhide HR3)) hgz)).trans ?_
            have e1 := (unhide HCG).1
            rw [(unhide HR3).cell, fil_at .u8 cs k (by omega)]
          have hck := (unhide HCG).2 k hlt
          have hcf := cvt_fit 3 _ ((unhide HL).fit (zs.getD k 0) (by have h3 := (unhide HL).len; rw [List.getD_eq_getElem?_getD, List.getElem?_eq_getElem (by omega)]; exact List.getElem_mem _))
          rw [← hck] at hcf
          have HNX := hide (zNums_next X2 E2 x.sz cs k (by have := (unhide HCG).1; omega))
          have hzlen := zNums_len X2 E2 x.sz cs k (by have := (unhide HCG).1; omega)
          have HZN := hide (fun (W : World) (q : ZAt z (zNums X2 E2 x.sz (cs.take k)).1 (zNums X2 E2 x.sz (cs.take k)).2 W) => znum_any z _ _ x.sz (cs.getD k 0) W q hcf.2 (by have := (unhide HX).2; omega))
          have HZQ := hide hzq
          have HOQ := hide hoq
          have hlu : u < wr.heap.size := Nat.lt_of_lt_of_le (unhide HU3).2 hoq.size
          have hlg : gl < wr.heap.size := block_lt_of_cell hcell
          generalize zs.getD k 0 = zk at *
          generalize cs.getD k 0 = c at *
          have hcv : IntKind.u8.wrap zk = c := hck.symm
          clear hck
          have HD5 := hide d5
          have HD2 := hide d2
          have HDG := hide dg
          have HDL := hide hcell
          clear d5 d2 dg hcell hzq hoq heu hlc hzlen
          go_wp2_with fail
          refine rmc3 g x.ln x.ln u gl ql x.ln x.lc k c zk rfl rfl rfl _ _ (show 286 ≤ 351 from by decide) rfl rfl rfl rfl (WdL 14 wr) ?h0 ?hp ?hcl ?hlate hlt hlt ?l5 ?l7 ?l10 (by rw [hcv]) ?_
          case h0 => exact WdL.start _ _
          case hp => exact fun i hi L W hW => hW.step i (by intro e; subst e; simp at hi)
          case hcl => exact fun L W hW h => hW.2 h
          case hlate => exact fun L W hW h0 => ⟨hW.1, fun _ => updl_of h0⟩
          case l5 => exact fun L W hW => (by obtain ⟨nq, rfl⟩ := hW.1; exact unhide HDG)
          case l7 => exact fun L W hW => (by obtain ⟨nq, rfl⟩ := hW.1; exact unhide HD5)
          case l10 => exact fun L W hW => (by obtain ⟨nq, rfl⟩ := hW.1; exact unhide HDL)
          intro L W _ hW
          obtain ⟨nq, hnq⟩ := hW.1
          have HZV := hide (show ZAt z (zNums X2 E2 x.sz (cs.take k)).1 (zNums X2 E2 x.sz (cs.take k)).2 W by rw [hnq]; exact unhide HZQ)
          have HOV := hide (show Only (fun q => q = z) w3 W by rw [hnq]; exact (unhide HOQ).trans (Only.drewN (fun _ => False) wr nq) (fun _ _ q => q.elim))
          have HEV := hide (show W.heap = wr.heap by rw [hnq]; rfl)
          clear hnq hW HZQ HOQ
          simp only [put_list, List.set_cons_succ, List.set_cons_zero]
          go_wp2_with fail
          have hcb : ∀ (gg j : Nat) (vv : Value), gg < wr.heap.size → gg ≠ z → wr.cell? ⟨gg, j, none⟩ = some vv → ∀ L W', WdC 10 (fun W' => ZTo z (zNums X2 E2 x.sz (cs.take (k + 1))).1 (zNums X2 E2 x.sz (cs.take (k + 1))).2 W W') W L W' → W'.cell? ⟨gg, j, none⟩ = some vv := by
            intro gg j vv hg1 hg2 hg3 L W' hW'
            rw [World.cell?_of_block (hW'.block (fun _ q => q.2) gg (by rw [unhide HEV]; exact hg1) hg2), World.cell?_of_block (show W.heap[gg]? = wr.heap[gg]? by rw [unhide HEV])]
            exact hg3
          refine rmz3 z u gl ql x.ln x.lc k x.sz c zk rfl rfl rfl _ _ (show 297 ≤ 351 from by decide) rfl rfl rfl (WdC 10 (fun W' => ZTo z (zNums X2 E2 x.sz (cs.take (k + 1))).1 (zNums X2 E2 x.sz (cs.take (k + 1))).2 W W') W) ?h0 ?hp hlt ?l2 ?l4 ?l7 (by rw [hcv]) (by rw [IntWalk.i64_in _ hcf]) ?c10 ?_
          case h0 => exact WdC.start _ _ _
          case hp => exact fun i hi L W hW => hW.pure i (by intro e; subst e; simp at hi)
          case l2 => exact hcb u _ _ hlu huz (unhide HD2)
          case l4 => exact hcb u _ _ hlu huz (unhide HD5)
          case l7 => exact hcb gl _ _ hlg hglz (unhide HDL)
          case c10 =>
            intro L W' hW' hc
            obtain ⟨n2, rfl⟩ := hW'.call hc
            refine (unhide HZN (W.drewN n2) (unhide HZV)).mono ?_
            rintro e w5 ⟨rfl, hz5⟩
            refine ⟨rfl, WdC.post ?_⟩
            rw [unhide HNX]
            exact hz5.of_drewN
          intro L W5 hall hW5
          have hp5 := hW5.done (hall 10 (by decide))
          have HZ5 := hide hp5.1
          have HO5 := hide ((unhide HOV).trans hp5.2 (fun _ _ q => q))
          clear hp5 hW5 hall hcb
          simp only [put_list, List.set_cons_succ, List.set_cons_zero]
          go_wp2
          refine ⟨⟨rfl, k + 1, by omega, by go_num, unhide HZ5, unhide HO5⟩, ?_⟩
          simp [Go.RowKit.intOf]; omega
        · have hd : decide (k < x.ln) = false := by simp; omega
          have hlt' : ¬ (k : Int) < (x.ln : Int) := by omega
          have e : cs.take k = cs := List.take_of_length_le (by have := (unhide HCG).1; omega)
          rw [e] at hzq
          have hzl := lt_of_row (unhide HZ)
          have HE := hide (show MTo b v z (wNums X E x.sz cs) (zNums X2 E2 x.sz cs) w wr from by
            have hb3 := unhide HB3
            have hO := unhide HO
            refine ⟨v', (unhide HA).keep hoq (fun q => (unhide HNZ) (.inl q.symm)) (fun q e1 e2 => ?_), hzq, ?_, fun q e1 => ?_⟩
            · rcases unhide HF q e1 with q1 | q1
              · exact (unhide HNZ) (.inr (by rw [← e2]; exact q1))
              · have := hb3.size; omega
            · have o1 : Only (fun q => foot b v q ∨ q = z) w w3 := ⟨hO.os.trans hb3.os, hO.tape.trans hb3.tape, hO.output.trans hb3.output, Nat.le_trans hb3.size hO.size, fun q hq hn => (hO.block q (Nat.lt_of_lt_of_le hq hb3.size) (fun f => hn (.inl f))).trans (hb3.block q hq)⟩
              exact o1.trans hoq (fun _ _ q => .inr q)
            · rcases unhide HF q e1 with q1 | q1
              · exact .inl q1
              · exact .inr (Nat.le_trans hb3.size q1))
          clear hzq hoq
          go_wp2
          go_ret
          exact ⟨rfl, unhide HE⟩
theorem inf88 : (Tryd.prog.info? 88).map (fun i => (i.zero, i.size, decide (i.bytes ≤ 8))) = some (some (.int .u16 0), 1, true) := by kernel_rfl
set_option maxHeartbeats 8000000 in
set_option maxRecDepth 8000 in
theorem many_4 (b : Nat) (v : Value) (X : List UInt8) (E z : Nat) (X2 : List UInt8) (E2 : Nat) (x : Ro) (zs : List Int) (w : World) (h : WAt b v X E w) (h2 : ZAt z X2 E2 w) (hL : Lz x zs w) (hfit : x.Fit) (hpk : pk x.nn 6 = 4) (hz : ¬ foot b v z) (hl : 0 < x.ln → ∀ g q, x.lp = some ⟨g, q, none⟩ → ¬ foot b v g ∧ g ≠ z) (hX : X.length + 8 * x.ln ≤ 70368744177664) (hX2 : X2.length + 8 * x.ln ≤ 900000000000) (hln : x.ln ≤ 1000000000) :
    Calls Tryd.prog 19 #[.pointer (some ⟨b, 0, none⟩), .pointer (some ⟨z, 0, none⟩), .agg #[.int .i64 x.kd, .int .i64 x.on, .int .i64 x.sz, .int .i64 x.nn, .string ⟨x.s.toArray⟩, .slice x.lp x.ln x.lc]] w fun e w' => e = .returned (.bool true) ∧ MTo b v z (wNums X E x.sz (zs.map (cvt 4))) (zNums X2 E2 x.sz (zs.map (cvt 4))) w w' := by
  have HW := hide h
  have HZ := hide h2
  have HL := hide hL
  have HLP := hide hl
  have HNZ := hide hz
  have hlen := hL.len
  have hPK := hide (fun W => pick_any x.nn 6 W hfit.b3.1 hfit.b3.2 (by decide) (by decide))
  rw [hpk] at hPK
  obtain ⟨cs, hcs⟩ : ∃ cs, zs.map (cvt 4) = cs := ⟨_, rfl⟩
  have hcl : cs.length = x.ln := by rw [← hcs, hlen]; simp
  have hcg : ∀ j, j < x.ln → cs.getD j 0 = cvt 4 (zs.getD j 0) := fun j hj => by
    rw [← hcs]; simp [show j < zs.length by omega]
  rw [hcs]
  have HCG := hide (And.intro hcl hcg)
  have HX := hide (And.intro hX hX2)
  have hub : b < w.heap.size := lt_of_row h.row
  have huv : ∀ q, v.ownBlock = some q → q < w.heap.size := fun q e => ((World.ownsRowF_of h.own).lt q e).2
  have HUB := hide (And.intro hub huv)
  clear h h2 hL hl hz hpk hcs hlen hfit hcl hcg hX hX2 hub huv
  go_enter Tryd.func19, Tryd.ntmps19
  go_wp2_with fail
  refine (unhide hPK _).mono ?_
  rintro e w1 ⟨rfl, rfl⟩
  clear hPK
  have hb1 : Below w.heap.size w (w.alloc (.cells #[.int .i64 x.kd, .int .i64 x.on, .int .i64 x.sz, .int .i64 x.nn, .string ⟨x.s.toArray⟩, .slice x.lp x.ln x.lc] 33)) := (Below.refl _ _).alloc (Nat.le_refl _) _
  have hc1 : (w.alloc (.cells #[.int .i64 x.kd, .int .i64 x.on, .int .i64 x.sz, .int .i64 x.nn, .string ⟨x.s.toArray⟩, .slice x.lp x.ln x.lc] 33)).heap[w.heap.size]? = some (.cells #[.int .i64 x.kd, .int .i64 x.on, .int .i64 x.sz, .int .i64 x.nn, .string ⟨x.s.toArray⟩, .slice x.lp x.ln x.lc] 33 (0, 0)) := by
    show (w.heap.push _)[w.heap.size]? = _
    simp
  generalize w.alloc (.cells #[.int .i64 x.kd, .int .i64 x.on, .int .i64 x.sz, .int .i64 x.nn, .string ⟨x.s.toArray⟩, .slice x.lp x.ln x.lc] 33) = w1 at *
  have HRO := hide (show RoAt w1 w.heap.size 0 x from ⟨by rw [cell_of_row _ _ _ _ _ _ hc1]; rfl, by rw [cell_of_row _ _ _ _ _ _ hc1]; rfl, by rw [cell_of_row _ _ _ _ _ _ hc1]; rfl, by rw [cell_of_row _ _ _ _ _ _ hc1]; rfl, by rw [cell_of_row _ _ _ _ _ _ hc1]; rfl, by rw [cell_of_row _ _ _ _ _ _ hc1]; rfl⟩)
  have HB1 := hide hb1
  have HU1 := hide (lt_of_row hc1)
  clear hb1 hc1
  go_wp2_with (refine make1 inf88 Tryd.underlying87 rfl (.tmp 299) (.tmp 299) rfl _ _ x.ln (by rfl) (by rfl) rfl rfl (by omega) ?_; intro w2 hb2 k2)
  rw [← (unhide HCG).1, ← fil_zero .u16 cs] at hb2
  have HB2 := hide ((unhide HB1).trans (k2.mono (unhide HB1).size))
  have HRO2 := hide ((unhide HRO).keep (k2.block _ (unhide HU1)))
  have HR2 := hide hb2
  have hg1 := unhide HU1
  clear hb2 k2 HRO HB1 HU1
  generalize w1.heap.size = g at *
  obtain ⟨u, hu⟩ : ∃ u, w.heap.size = u := ⟨_, rfl⟩
  rw [hu] at HRO2 hg1 ⊢
  go_loopw [21] (fun i wr => ∃ k : Nat, k ≤ x.ln ∧ i = .int .i64 k ∧ Rw 88 g (fil .u16 cs k) wr ∧ Below w.heap.size w wr ∧ RoAt wr u 0 x) (fun i _ => x.ln - (Go.RowKit.intOf i).toNat)
  case atStart => exact ⟨0, by omega, rfl, unhide HR2, unhide HB2, unhide HRO2⟩
  case round =>
    obtain ⟨k, hk, rfl, hrw, hbr, hro⟩ := hrel
    clear HR2 HB2 HRO2
    by_cases hlt : k < x.ln
    · have hlt' : (k : Int) < (x.ln : Int) := by omega
      have d5 := hro.c5
      obtain ⟨gl, ql, hlp, hlc⟩ := ((unhide HL).below hbr).cell (by omega)
      rw [hlp] at d5
      have hcell := hlc k hlt
      have hck := (unhide HCG).2 k hlt
      have hst := hide (hrw.set k (.int .u16 (cs.getD k 0)))
      rw [fil_step .u16 cs k (by have := (unhide HCG).1; omega)] at hst
      have hold := hrw.cell k
      rw [List.getElem?_eq_getElem (show k < (fil .u16 cs k).length by rw [fil_len .u16 cs k (by have := (unhide HCG).1; omega)]; have := (unhide HCG).1; omega)] at hold
      obtain ⟨v0, hv0⟩ : ∃ v0, (fil .u16 cs k)[k]'(by rw [fil_len .u16 cs k (by have := (unhide HCG).1; omega)]; have := (unhide HCG).1; omega) = v0 := ⟨_, rfl⟩
      rw [hv0] at hold
      have hfz := hrw.fz k
      have HBR := hide (hbr.setCell (p := ⟨g, k, none⟩) (by show w.heap.size ≤ g; omega) (.int .u16 (cs.getD k 0)))
      have HRO3 := hide (hro.keep (w' := wr.setCell ⟨g, k, none⟩ (.int .u16 (cs.getD k 0))) (heap_setCell_other wr ⟨g, k, none⟩ u _ (by show u ≠ g; omega)))
      generalize cs.getD k 0 = c at *
      generalize zs.getD k 0 = zk at *
      have hcv : IntKind.u16.wrap zk = c := hck.symm
      clear hrw hbr hro hv0 hlc hck
      go_wp2
      refine ⟨⟨k + 1, by omega, by go_num, unhide hst, unhide HBR, unhide HRO3⟩, ?_⟩
      simp [Go.RowKit.intOf]; omega
    · have hd : decide (k < x.ln) = false := by simp; omega
      have hlt' : ¬ (k : Int) < (x.ln : Int) := by omega
      have ek : k = x.ln := by omega
      have hzs : Zs .u16 g x.ln cs wr := by
        have e1 := (unhide HCG).1
        refine ⟨e1.symm, lt_of_row hrw, fun j hj => ?_⟩
        rw [hrw.cell, ek, ← e1, fil_at .u16 cs j (by omega)]
      have hgf : ¬ foot b v g := by
        have := (unhide HUB).1
        rintro (q | q)
        · omega
        · have := (unhide HUB).2 g q
          omega
      have huf : ¬ foot b v u := by
        have := (unhide HUB).1
        rintro (q | q)
        · omega
        · have := (unhide HUB).2 u q
          omega
      have ho0 : Only (fun _ => False) w wr := ⟨hbr.os, hbr.tape, hbr.output, hbr.size, fun q hq _ => hbr.block q hq⟩
      have HNM := hide (nums_u16 b v X E x.sz g x.ln x.ln cs wr ((unhide HW).keep ho0 (fun q => q) (fun _ _ q => q)) hzs (fun c hc => by
        obtain ⟨j, hj, e⟩ := List.getElem_of_mem hc
        have h1 := (unhide HCG).1
        have h2 := (unhide HCG).2 j (by omega)
        have e2 : cs.getD j 0 = c := by rw [List.getD_eq_getElem?_getD, List.getElem?_eq_getElem hj, e]; rfl
        rw [← e2, h2]
        refine cvt_fit _ _ ((unhide HL).fit _ ?_)
        have h3 := (unhide HL).len
        rw [List.getD_eq_getElem?_getD, List.getElem?_eq_getElem (by omega)]
        exact List.getElem_mem _) hgf (unhide HX).1)
      have HB3 := hide hbr
      have HF3 := hide (And.intro hgf huf)
      have HRW := hide (hrw)
      have HRO4 := hide (And.intro hro (block_lt_of_cell hro.c0))
      have d2 := hro.c2
      rw [Nat.zero_add] at d2
      clear hzs hgf huf ho0 hbr hrw hro
      have HEK := hide ek
      clear ek
      go_wp2_with fail
      refine (unhide HNM).mono ?_
      rintro e w3 ⟨rfl, hto⟩
      obtain ⟨v', hA, hO, hF⟩ := hto
      have HA := hide hA
      have HO := hide hO
      have HF := hide hF
      have HZ3 := hide (((unhide HZ).keep (P := fun _ => False) ⟨(unhide HB3).os, (unhide HB3).tape, (unhide HB3).output, (unhide HB3).size, fun q hq _ => (unhide HB3).block q hq⟩ (fun q => q)).keep hO (unhide HNZ))
      have HR3 := hide ((unhide HRW).keep hO (unhide HF3).1)
      rw [unhide HEK, ← (unhide HCG).1] at HR3
      have HU3 := hide (And.intro ((unhide HRO4).1.keep (hO.block u (unhide HRO4).2 (unhide HF3).2)) (Nat.lt_of_lt_of_le (unhide HRO4).2 hO.size))
      have HL3 := hide (((unhide HL).below (unhide HB3)).keepP (fun h0 gg q e hq => hO.block gg hq ((unhide HLP) h0 gg q e).1))
      clear hA hO hF HNM HRW HRO4 d2
      go_wp2
      go_loopw [8, 22] (fun ok i wq => ok = .bool true ∧ ∃ k : Nat, k ≤ x.ln ∧ i = .int .i64 k ∧ ZAt z (zNums X2 E2 x.sz (cs.take k)).1 (zNums X2 E2 x.sz (cs.take k)).2 wq ∧ Only (fun q => q = z) w3 wq) (fun _ i _ => x.ln - (Go.RowKit.intOf i).toNat)
      case atStart => exact ⟨rfl, 0, by omega, rfl, unhide HZ3, Only.refl _ _⟩
      case round =>
        clear hd hlt'
        obtain ⟨rfl, k, hk, rfl, hzq, hoq⟩ := hrel
        by_cases hlt : k < x.ln
        · have hlt' : (k : Int) < (x.ln : Int) := by omega
          have hzl := lt_of_row (unhide HZ)
          have huz : u ≠ z := by omega
          have hgz : g ≠ z := by omega
          obtain ⟨gl, ql, hlp, hlc⟩ := (unhide HL3).cell (by omega)
          have hglz := (unhide HLP (by omega) gl ql hlp).2
          have hcell : wr.cell? ⟨gl, ql + k, none⟩ = some (.int .i64 (zs.getD k 0)) := (World.cell?_of_block (hoq.block gl (block_lt_of_cell (hlc k hlt)) hglz)).trans (hlc k hlt)
          have heu := hoq.block u (unhide HU3).2 huz
          have d5 : wr.cell? ⟨u, 0 + 5, none⟩ = some (.slice (some ⟨gl, ql, none⟩) x.ln x.lc) := by rw [← hlp]; exact (World.cell?_of_block heu).trans (unhide HU3).1.c5
          have d2 : wr.cell? ⟨u, 0 + 2, none⟩ = some (.int .i64 x.sz) := (World.cell?_of_block heu).trans (unhide HU3).1.c2
          have dg : wr.cell? ⟨g, 0 + k, none⟩ = some (.int .u16 (cs.getD k 0)) := by
            rw [Nat.zero_add]
            refine (World.cell?_of_block (hoq.block g (lt_of_row (unhide HR3)) hgz)).trans ?_
            have e1 := (unhide HCG).1
            rw [(unhide HR3).cell, fil_at .u16 cs k (by omega)]
          have hck := (unhide HCG).2 k hlt
          have hcf := cvt_fit 4 _ ((unhide HL).fit (zs.getD k 0) (by have h3 := (unhide HL).len; rw [List.getD_eq_getElem?_getD, List.getElem?_eq_getElem (by omega)]; exact List.getElem_mem _))
          rw [← hck] at hcf
          have HNX := hide (zNums_next X2 E2 x.sz cs k (by have := (unhide HCG).1; omega))
          have hzlen := zNums_len X2 E2 x.sz cs k (by have := (unhide HCG).1; omega)
          have HZN := hide (fun (W : World) (q : ZAt z (zNums X2 E2 x.sz (cs.take k)).1 (zNums X2 E2 x.sz (cs.take k)).2 W) => znum_any z _ _ x.sz (cs.getD k 0) W q hcf.2 (by have := (unhide HX).2; omega))
          have HZQ := hide hzq
          have HOQ := hide hoq
          have hlu : u < wr.heap.size := Nat.lt_of_lt_of_le (unhide HU3).2 hoq.size
          have hlg : gl < wr.heap.size := block_lt_of_cell hcell
          generalize zs.getD k 0 = zk at *
          generalize cs.getD k 0 = c at *
          have hcv : IntKind.u16.wrap zk = c := hck.symm
          clear hck
          have HD5 := hide d5
          have HD2 := hide d2
          have HDG := hide dg
          have HDL := hide hcell
          clear d5 d2 dg hcell hzq hoq heu hlc hzlen
          go_wp2_with fail
          refine rmc4 g x.ln x.ln u gl ql x.ln x.lc k c zk rfl rfl rfl _ _ (show 339 ≤ 351 from by decide) rfl rfl rfl rfl (WdL 14 wr) ?h0 ?hp ?hcl ?hlate hlt hlt ?l5 ?l7 ?l10 (by rw [hcv]) ?_
          case h0 => exact WdL.start _ _
          case hp => exact fun i hi L W hW => hW.step i (by intro e; subst e; simp at hi)
          case hcl => exact fun L W hW h => hW.2 h
          case hlate => exact fun L W hW h0 => ⟨hW.1, fun _ => updl_of h0⟩
          case l5 => exact fun L W hW => (by obtain ⟨nq, rfl⟩ := hW.1; exact unhide HDG)
          case l7 => exact fun L W hW => (by obtain ⟨nq, rfl⟩ := hW.1; exact unhide HD5)
          case l10 => exact fun L W hW => (by obtain ⟨nq, rfl⟩ := hW.1; exact unhide HDL)
          intro L W _ hW
          obtain ⟨nq, hnq⟩ := hW.1
          have HZV := hide (show ZAt z (zNums X2 E2 x.sz (cs.take k)).1 (zNums X2 E2 x.sz (cs.take k)).2 W by rw [hnq]; exact unhide HZQ)
          have HOV := hide (show Only (fun q => q = z) w3 W by rw [hnq]; exact (unhide HOQ).trans (Only.drewN (fun _ => False) wr nq) (fun _ _ q => q.elim))
          have HEV := hide (show W.heap = wr.heap by rw [hnq]; rfl)
          clear hnq hW HZQ HOQ
          simp only [put_list, List.set_cons_succ, List.set_cons_zero]
          go_wp2_with fail
          have hcb : ∀ (gg j : Nat) (vv : Value), gg < wr.heap.size → gg ≠ z → wr.cell? ⟨gg, j, none⟩ = some vv → ∀ L W', WdC 10 (fun W' => ZTo z (zNums X2 E2 x.sz (cs.take (k + 1))).1 (zNums X2 E2 x.sz (cs.take (k + 1))).2 W W') W L W' → W'.cell? ⟨gg, j, none⟩ = some vv := by
            intro gg j vv hg1 hg2 hg3 L W' hW'
            rw [World.cell?_of_block (hW'.block (fun _ q => q.2) gg (by rw [unhide HEV]; exact hg1) hg2), World.cell?_of_block (show W.heap[gg]? = wr.heap[gg]? by rw [unhide HEV])]
            exact hg3
          refine rmz4 z u gl ql x.ln x.lc k x.sz c zk rfl rfl rfl _ _ (show 350 ≤ 351 from by decide) rfl rfl rfl (WdC 10 (fun W' => ZTo z (zNums X2 E2 x.sz (cs.take (k + 1))).1 (zNums X2 E2 x.sz (cs.take (k + 1))).2 W W') W) ?h0 ?hp hlt ?l2 ?l4 ?l7 (by rw [hcv]) (by rw [IntWalk.i64_in _ hcf]) ?c10 ?_
          case h0 => exact WdC.start _ _ _
          case hp => exact fun i hi L W hW => hW.pure i (by intro e; subst e; simp at hi)
          case l2 => exact hcb u _ _ hlu huz (unhide HD2)
          case l4 => exact hcb u _ _ hlu huz (unhide HD5)
          case l7 => exact hcb gl _ _ hlg hglz (unhide HDL)
          case c10 =>
            intro L W' hW' hc
            obtain ⟨n2, rfl⟩ := hW'.call hc
            refine (unhide HZN (W.drewN n2) (unhide HZV)).mono ?_
            rintro e w5 ⟨rfl, hz5⟩
            refine ⟨rfl, WdC.post ?_⟩
            rw [unhide HNX]
            exact hz5.of_drewN
          intro L W5 hall hW5
          have hp5 := hW5.done (hall 10 (by decide))
          have HZ5 := hide hp5.1
          have HO5 := hide ((unhide HOV).trans hp5.2 (fun _ _ q => q))
          clear hp5 hW5 hall hcb
          simp only [put_list, List.set_cons_succ, List.set_cons_zero]
          go_wp2
          refine ⟨⟨rfl, k + 1, by omega, by go_num, unhide HZ5, unhide HO5⟩, ?_⟩
          simp [Go.RowKit.intOf]; omega
        · have hd : decide (k < x.ln) = false := by simp; omega
          have hlt' : ¬ (k : Int) < (x.ln : Int) := by omega
          have e : cs.take k = cs := List.take_of_length_le (by have := (unhide HCG).1; omega)
          rw [e] at hzq
          have hzl := lt_of_row (unhide HZ)
          have HE := hide (show MTo b v z (wNums X E x.sz cs) (zNums X2 E2 x.sz cs) w wr from by
            have hb3 := unhide HB3
            have hO := unhide HO
            refine ⟨v', (unhide HA).keep hoq (fun q => (unhide HNZ) (.inl q.symm)) (fun q e1 e2 => ?_), hzq, ?_, fun q e1 => ?_⟩
            · rcases unhide HF q e1 with q1 | q1
              · exact (unhide HNZ) (.inr (by rw [← e2]; exact q1))
              · have := hb3.size; omega
            · have o1 : Only (fun q => foot b v q ∨ q = z) w w3 := ⟨hO.os.trans hb3.os, hO.tape.trans hb3.tape, hO.output.trans hb3.output, Nat.le_trans hb3.size hO.size, fun q hq hn => (hO.block q (Nat.lt_of_lt_of_le hq hb3.size) (fun f => hn (.inl f))).trans (hb3.block q hq)⟩
              exact o1.trans hoq (fun _ _ q => .inr q)
            · rcases unhide HF q e1 with q1 | q1
              · exact .inl q1
              · exact .inr (Nat.le_trans hb3.size q1))
          clear hzq hoq
          go_wp2
          go_ret
          exact ⟨rfl, unhide HE⟩
theorem inf91 : (Tryd.prog.info? 91).map (fun i => (i.zero, i.size, decide (i.bytes ≤ 8))) = some (some (.int .u32 0), 1, true) := by kernel_rfl
set_option maxHeartbeats 8000000 in
set_option maxRecDepth 8000 in
theorem many_5 (b : Nat) (v : Value) (X : List UInt8) (E z : Nat) (X2 : List UInt8) (E2 : Nat) (x : Ro) (zs : List Int) (w : World) (h : WAt b v X E w) (h2 : ZAt z X2 E2 w) (hL : Lz x zs w) (hfit : x.Fit) (hpk : pk x.nn 6 = 5) (hz : ¬ foot b v z) (hl : 0 < x.ln → ∀ g q, x.lp = some ⟨g, q, none⟩ → ¬ foot b v g ∧ g ≠ z) (hX : X.length + 8 * x.ln ≤ 70368744177664) (hX2 : X2.length + 8 * x.ln ≤ 900000000000) (hln : x.ln ≤ 1000000000) :
    Calls Tryd.prog 19 #[.pointer (some ⟨b, 0, none⟩), .pointer (some ⟨z, 0, none⟩), .agg #[.int .i64 x.kd, .int .i64 x.on, .int .i64 x.sz, .int .i64 x.nn, .string ⟨x.s.toArray⟩, .slice x.lp x.ln x.lc]] w fun e w' => e = .returned (.bool true) ∧ MTo b v z (wNums X E x.sz (zs.map (cvt 5))) (zNums X2 E2 x.sz (zs.map (cvt 5))) w w' := by
  have HW := hide h
  have HZ := hide h2
  have HL := hide hL
  have HLP := hide hl
  have HNZ := hide hz
  have hlen := hL.len
  have hPK := hide (fun W => pick_any x.nn 6 W hfit.b3.1 hfit.b3.2 (by decide) (by decide))
  rw [hpk] at hPK
  obtain ⟨cs, hcs⟩ : ∃ cs, zs.map (cvt 5) = cs := ⟨_, rfl⟩
  have hcl : cs.length = x.ln := by rw [← hcs, hlen]; simp
  have hcg : ∀ j, j < x.ln → cs.getD j 0 = cvt 5 (zs.getD j 0) := fun j hj => by
    rw [← hcs]; simp [show j < zs.length by omega]
  rw [hcs]
  have HCG := hide (And.intro hcl hcg)
  have HX := hide (And.intro hX hX2)
  have hub : b < w.heap.size := lt_of_row h.row
  have huv : ∀ q, v.ownBlock = some q → q < w.heap.size := fun q e => ((World.ownsRowF_of h.own).lt q e).2
  have HUB := hide (And.intro hub huv)
  clear h h2 hL hl hz hpk hcs hlen hfit hcl hcg hX hX2 hub huv
  go_enter Tryd.func19, Tryd.ntmps19
  go_wp2_with fail
  refine (unhide hPK _).mono ?_
  rintro e w1 ⟨rfl, rfl⟩
  clear hPK
  have hb1 : Below w.heap.size w (w.alloc (.cells #[.int .i64 x.kd, .int .i64 x.on, .int .i64 x.sz, .int .i64 x.nn, .string ⟨x.s.toArray⟩, .slice x.lp x.ln x.lc] 33)) := (Below.refl _ _).alloc (Nat.le_refl _) _
  have hc1 : (w.alloc (.cells #[.int .i64 x.kd, .int .i64 x.on, .int .i64 x.sz, .int .i64 x.nn, .string ⟨x.s.toArray⟩, .slice x.lp x.ln x.lc] 33)).heap[w.heap.size]? = some (.cells #[.int .i64 x.kd, .int .i64 x.on, .int .i64 x.sz, .int .i64 x.nn, .string ⟨x.s.toArray⟩, .slice x.lp x.ln x.lc] 33 (0, 0)) := by
    show (w.heap.push _)[w.heap.size]? = _
    simp
  generalize w.alloc (.cells #[.int .i64 x.kd, .int .i64 x.on, .int .i64 x.sz, .int .i64 x.nn, .string ⟨x.s.toArray⟩, .slice x.lp x.ln x.lc] 33) = w1 at *
  have HRO := hide (show RoAt w1 w.heap.size 0 x from ⟨by rw [cell_of_row _ _ _ _ _ _ hc1]; rfl, by rw [cell_of_row _ _ _ _ _ _ hc1]; rfl, by rw [cell_of_row _ _ _ _ _ _ hc1]; rfl, by rw [cell_of_row _ _ _ _ _ _ hc1]; rfl, by rw [cell_of_row _ _ _ _ _ _ hc1]; rfl, by rw [cell_of_row _ _ _ _ _ _ hc1]; rfl⟩)
  have HB1 := hide hb1
  have HU1 := hide (lt_of_row hc1)
  clear hb1 hc1
  go_wp2_with (refine make1 inf91 Tryd.underlying90 rfl (.tmp 32) (.tmp 32) rfl _ _ x.ln (by rfl) (by rfl) rfl rfl (by omega) ?_; intro w2 hb2 k2)
  rw [← (unhide HCG).1, ← fil_zero .u32 cs] at hb2
  have HB2 := hide ((unhide HB1).trans (k2.mono (unhide HB1).size))
  have HRO2 := hide ((unhide HRO).keep (k2.block _ (unhide HU1)))
  have HR2 := hide hb2
  have hg1 := unhide HU1
  clear hb2 k2 HRO HB1 HU1
  generalize w1.heap.size = g at *
  obtain ⟨u, hu⟩ : ∃ u, w.heap.size = u := ⟨_, rfl⟩
  rw [hu] at HRO2 hg1 ⊢
  go_loopw [24] (fun i wr => ∃ k : Nat, k ≤ x.ln ∧ i = .int .i64 k ∧ Rw 91 g (fil .u32 cs k) wr ∧ Below w.heap.size w wr ∧ RoAt wr u 0 x) (fun i _ => x.ln - (Go.RowKit.intOf i).toNat)
  case atStart => exact ⟨0, by omega, rfl, unhide HR2, unhide HB2, unhide HRO2⟩
  case round =>
    obtain ⟨k, hk, rfl, hrw, hbr, hro⟩ := hrel
    clear HR2 HB2 HRO2
    by_cases hlt : k < x.ln
    · have hlt' : (k : Int) < (x.ln : Int) := by omega
      have d5 := hro.c5
      obtain ⟨gl, ql, hlp, hlc⟩ := ((unhide HL).below hbr).cell (by omega)
      rw [hlp] at d5
      have hcell := hlc k hlt
      have hck := (unhide HCG).2 k hlt
      have hst := hide (hrw.set k (.int .u32 (cs.getD k 0)))
      rw [fil_step .u32 cs k (by have := (unhide HCG).1; omega)] at hst
      have hold := hrw.cell k
      rw [List.getElem?_eq_getElem (show k < (fil .u32 cs k).length by rw [fil_len .u32 cs k (by have := (unhide HCG).1; omega)]; have := (unhide HCG).1; omega)] at hold
      obtain ⟨v0, hv0⟩ : ∃ v0, (fil .u32 cs k)[k]'(by rw [fil_len .u32 cs k (by have := (unhide HCG).1; omega)]; have := (unhide HCG).1; omega) = v0 := ⟨_, rfl⟩
      rw [hv0] at hold
      have hfz := hrw.fz k
      have HBR := hide (hbr.setCell (p := ⟨g, k, none⟩) (by show w.heap.size ≤ g; omega) (.int .u32 (cs.getD k 0)))
      have HRO3 := hide (hro.keep (w' := wr.setCell ⟨g, k, none⟩ (.int .u32 (cs.getD k 0))) (heap_setCell_other wr ⟨g, k, none⟩ u _ (by show u ≠ g; omega)))
      generalize cs.getD k 0 = c at *
      generalize zs.getD k 0 = zk at *
      have hcv : IntKind.u32.wrap zk = c := hck.symm
      clear hrw hbr hro hv0 hlc hck
      go_wp2
      refine ⟨⟨k + 1, by omega, by go_num, unhide hst, unhide HBR, unhide HRO3⟩, ?_⟩
      simp [Go.RowKit.intOf]; omega
    · have hd : decide (k < x.ln) = false := by simp; omega
      have hlt' : ¬ (k : Int) < (x.ln : Int) := by omega
      have ek : k = x.ln := by omega
      have hzs : Zs .u32 g x.ln cs wr := by
        have e1 := (unhide HCG).1
        refine ⟨e1.symm, lt_of_row hrw, fun j hj => ?_⟩
        rw [hrw.cell, ek, ← e1, fil_at .u32 cs j (by omega)]
      have hgf : ¬ foot b v g := by
        have := (unhide HUB).1
        rintro (q | q)
        · omega
        · have := (unhide HUB).2 g q
          omega
      have huf : ¬ foot b v u := by
        have := (unhide HUB).1
        rintro (q | q)
        · omega
        · have := (unhide HUB).2 u q
          omega
      have ho0 : Only (fun _ => False) w wr := ⟨hbr.os, hbr.tape, hbr.output, hbr.size, fun q hq _ => hbr.block q hq⟩
      have HNM := hide (nums_u32 b v X E x.sz g x.ln x.ln cs wr ((unhide HW).keep ho0 (fun q => q) (fun _ _ q => q)) hzs (fun c hc => by
        obtain ⟨j, hj, e⟩ := List.getElem_of_mem hc
        have h1 := (unhide HCG).1
        have h2 := (unhide HCG).2 j (by omega)
        have e2 : cs.getD j 0 = c := by rw [List.getD_eq_getElem?_getD, List.getElem?_eq_getElem hj, e]; rfl
        rw [← e2, h2]
        refine cvt_fit _ _ ((unhide HL).fit _ ?_)
        have h3 := (unhide HL).len
        rw [List.getD_eq_getElem?_getD, List.getElem?_eq_getElem (by omega)]
        exact List.getElem_mem _) hgf (unhide HX).1)
      have HB3 := hide hbr
      have HF3 := hide (And.intro hgf huf)
      have HRW := hide (hrw)
      have HRO4 := hide (And.intro hro (block_lt_of_cell hro.c0))
      have d2 := hro.c2
      rw [Nat.zero_add] at d2
      clear hzs hgf huf ho0 hbr hrw hro
      have HEK := hide ek
      clear ek
      go_wp2_with fail
      refine (unhide HNM).mono ?_
      rintro e w3 ⟨rfl, hto⟩
      obtain ⟨v', hA, hO, hF⟩ := hto
      have HA := hide hA
      have HO := hide hO
      have HF := hide hF
      have HZ3 := hide (((unhide HZ).keep (P := fun _ => False) ⟨(unhide HB3).os, (unhide HB3).tape, (unhide HB3).output, (unhide HB3).size, fun q hq _ => (unhide HB3).block q hq⟩ (fun q => q)).keep hO (unhide HNZ))
      have HR3 := hide ((unhide HRW).keep hO (unhide HF3).1)
      rw [unhide HEK, ← (unhide HCG).1] at HR3
      have HU3 := hide (And.intro ((unhide HRO4).1.keep (hO.block u (unhide HRO4).2 (unhide HF3).2)) (Nat.lt_of_lt_of_le (unhide HRO4).2 hO.size))
      have HL3 := hide (((unhide HL).below (unhide HB3)).keepP (fun h0 gg q e hq => hO.block gg hq ((unhide HLP) h0 gg q e).1))
      clear hA hO hF HNM HRW HRO4 d2
      go_wp2
      go_loopw [8, 25] (fun ok i wq => ok = .bool true ∧ ∃ k : Nat, k ≤ x.ln ∧ i = .int .i64 k ∧ ZAt z (zNums X2 E2 x.sz (cs.take k)).1 (zNums X2 E2 x.sz (cs.take k)).2 wq ∧ Only (fun q => q = z) w3 wq) (fun _ i _ => x.ln - (Go.RowKit.intOf i).toNat)
      case atStart => exact ⟨rfl, 0, by omega, rfl, unhide HZ3, Only.refl _ _⟩
      case round =>
        clear hd hlt'
        obtain ⟨rfl, k, hk, rfl, hzq, hoq⟩ := hrel
        by_cases hlt : k < x.ln
        · have hlt' : (k : Int) < (x.ln : Int) := by omega
          have hzl := lt_of_row (unhide HZ)
          have huz : u ≠ z := by omega
          have hgz : g ≠ z := by omega
          obtain ⟨gl, ql, hlp, hlc⟩ := (unhide HL3).cell (by omega)
          have hglz := (unhide HLP (by omega) gl ql hlp).2
          have hcell : wr.cell? ⟨gl, ql + k, none⟩ = some (.int .i64 (zs.getD k 0)) := (World.cell?_of_block (hoq.block gl (block_lt_of_cell (hlc k hlt)) hglz)).trans (hlc k hlt)
          have heu := hoq.block u (unhide HU3).2 huz
          have d5 : wr.cell? ⟨u, 0 + 5, none⟩ = some (.slice (some ⟨gl, ql, none⟩) x.ln x.lc) := by rw [← hlp]; exact (World.cell?_of_block heu).trans (unhide HU3).1.c5
          have d2 : wr.cell? ⟨u, 0 + 2, none⟩ = some (.int .i64 x.sz) := (World.cell?_of_block heu).trans (unhide HU3).1.c2
          have dg : wr.cell? ⟨g, 0 + k, none⟩ = some (.int .u32 (cs.getD k 0)) := by
            rw [Nat.zero_add]
            refine (World.cell?_of_block (hoq.block g (lt_of_row (unhide HR3)) hgz)).trans ?_
            have e1 := (unhide HCG).1
            rw [(unhide HR3).cell, fil_at .u32 cs k (by omega)]
          have hck := (unhide HCG).2 k hlt
          have hcf := cvt_fit 5 _ ((unhide HL).fit (zs.getD k 0) (by have h3 := (unhide HL).len; rw [List.getD_eq_getElem?_getD, List.getElem?_eq_getElem (by omega)]; exact List.getElem_mem _))
          rw [← hck] at hcf
          have HNX := hide (zNums_next X2 E2 x.sz cs k (by have := (unhide HCG).1; omega))
          have hzlen := zNums_len X2 E2 x.sz cs k (by have := (unhide HCG).1; omega)
          have HZN := hide (fun (W : World) (q : ZAt z (zNums X2 E2 x.sz (cs.take k)).1 (zNums X2 E2 x.sz (cs.take k)).2 W) => znum_any z _ _ x.sz (cs.getD k 0) W q hcf.2 (by have := (unhide HX).2; omega))
          have HZQ := hide hzq
          have HOQ := hide hoq
          have hlu : u < wr.heap.size := Nat.lt_of_lt_of_le (unhide HU3).2 hoq.size
          have hlg : gl < wr.heap.size := block_lt_of_cell hcell
          generalize zs.getD k 0 = zk at *
          generalize cs.getD k 0 = c at *
          have hcv : IntKind.u32.wrap zk = c := hck.symm
          clear hck
          have HD5 := hide d5
          have HD2 := hide d2
          have HDG := hide dg
          have HDL := hide hcell
          clear d5 d2 dg hcell hzq hoq heu hlc hzlen
          go_wp2_with fail
          refine rmc5 g x.ln x.ln u gl ql x.ln x.lc k c zk rfl rfl rfl _ _ (show 72 ≤ 351 from by decide) rfl rfl rfl rfl (WdL 14 wr) ?h0 ?hp ?hcl ?hlate hlt hlt ?l5 ?l7 ?l10 (by rw [hcv]) ?_
          case h0 => exact WdL.start _ _
          case hp => exact fun i hi L W hW => hW.step i (by intro e; subst e; simp at hi)
          case hcl => exact fun L W hW h => hW.2 h
          case hlate => exact fun L W hW h0 => ⟨hW.1, fun _ => updl_of h0⟩
          case l5 => exact fun L W hW => (by obtain ⟨nq, rfl⟩ := hW.1; exact unhide HDG)
          case l7 => exact fun L W hW => (by obtain ⟨nq, rfl⟩ := hW.1; exact unhide HD5)
          case l10 => exact fun L W hW => (by obtain ⟨nq, rfl⟩ := hW.1; exact unhide HDL)
          intro L W _ hW
          obtain ⟨nq, hnq⟩ := hW.1
          have HZV := hide (show ZAt z (zNums X2 E2 x.sz (cs.take k)).1 (zNums X2 E2 x.sz (cs.take k)).2 W by rw [hnq]; exact unhide HZQ)
          have HOV := hide (show Only (fun q => q = z) w3 W by rw [hnq]; exact (unhide HOQ).trans (Only.drewN (fun _ => False) wr nq) (fun _ _ q => q.elim))
          have HEV := hide (show W.heap = wr.heap by rw [hnq]; rfl)
          clear hnq hW HZQ HOQ
          simp only [put_list, List.set_cons_succ, List.set_cons_zero]
          go_wp2_with fail
          have hcb : ∀ (gg j : Nat) (vv : Value), gg < wr.heap.size → gg ≠ z → wr.cell? ⟨gg, j, none⟩ = some vv → ∀ L W', WdC 10 (fun W' => ZTo z (zNums X2 E2 x.sz (cs.take (k + 1))).1 (zNums X2 E2 x.sz (cs.take (k + 1))).2 W W') W L W' → W'.cell? ⟨gg, j, none⟩ = some vv := by
            intro gg j vv hg1 hg2 hg3 L W' hW'
            rw [World.cell?_of_block (hW'.block (fun _ q => q.2) gg (by rw [unhide HEV]; exact hg1) hg2), World.cell?_of_block (show W.heap[gg]? = wr.heap[gg]? by rw [unhide HEV])]
            exact hg3
          refine rmz5 z u gl ql x.ln x.lc k x.sz c zk rfl rfl rfl _ _ (show 83 ≤ 351 from by decide) rfl rfl rfl (WdC 10 (fun W' => ZTo z (zNums X2 E2 x.sz (cs.take (k + 1))).1 (zNums X2 E2 x.sz (cs.take (k + 1))).2 W W') W) ?h0 ?hp hlt ?l2 ?l4 ?l7 (by rw [hcv]) (by rw [IntWalk.i64_in _ hcf]) ?c10 ?_
          case h0 => exact WdC.start _ _ _
          case hp => exact fun i hi L W hW => hW.pure i (by intro e; subst e; simp at hi)
          case l2 => exact hcb u _ _ hlu huz (unhide HD2)
          case l4 => exact hcb u _ _ hlu huz (unhide HD5)
          case l7 => exact hcb gl _ _ hlg hglz (unhide HDL)
          case c10 =>
            intro L W' hW' hc
            obtain ⟨n2, rfl⟩ := hW'.call hc
            refine (unhide HZN (W.drewN n2) (unhide HZV)).mono ?_
            rintro e w5 ⟨rfl, hz5⟩
            refine ⟨rfl, WdC.post ?_⟩
            rw [unhide HNX]
            exact hz5.of_drewN
          intro L W5 hall hW5
          have hp5 := hW5.done (hall 10 (by decide))
          have HZ5 := hide hp5.1
          have HO5 := hide ((unhide HOV).trans hp5.2 (fun _ _ q => q))
          clear hp5 hW5 hall hcb
          simp only [put_list, List.set_cons_succ, List.set_cons_zero]
          go_wp2
          refine ⟨⟨rfl, k + 1, by omega, by go_num, unhide HZ5, unhide HO5⟩, ?_⟩
          simp [Go.RowKit.intOf]; omega
        · have hd : decide (k < x.ln) = false := by simp; omega
          have hlt' : ¬ (k : Int) < (x.ln : Int) := by omega
          have e : cs.take k = cs := List.take_of_length_le (by have := (unhide HCG).1; omega)
          rw [e] at hzq
          have hzl := lt_of_row (unhide HZ)
          have HE := hide (show MTo b v z (wNums X E x.sz cs) (zNums X2 E2 x.sz cs) w wr from by
            have hb3 := unhide HB3
            have hO := unhide HO
            refine ⟨v', (unhide HA).keep hoq (fun q => (unhide HNZ) (.inl q.symm)) (fun q e1 e2 => ?_), hzq, ?_, fun q e1 => ?_⟩
            · rcases unhide HF q e1 with q1 | q1
              · exact (unhide HNZ) (.inr (by rw [← e2]; exact q1))
              · have := hb3.size; omega
            · have o1 : Only (fun q => foot b v q ∨ q = z) w w3 := ⟨hO.os.trans hb3.os, hO.tape.trans hb3.tape, hO.output.trans hb3.output, Nat.le_trans hb3.size hO.size, fun q hq hn => (hO.block q (Nat.lt_of_lt_of_le hq hb3.size) (fun f => hn (.inl f))).trans (hb3.block q hq)⟩
              exact o1.trans hoq (fun _ _ q => .inr q)
            · rcases unhide HF q e1 with q1 | q1
              · exact .inl q1
              · exact .inr (Nat.le_trans hb3.size q1))
          clear hzq hoq
          go_wp2
          go_ret
          exact ⟨rfl, unhide HE⟩
end Go.Proofs.YthddilflldkmfaaDoor
