import Derived.Test.YthddilflldkmfaaDoorMna
import Derived.Test.YthddilflldkmfaaDoorRgm
import Derived.Test.YthddilflldkmfaaDoorRdw
namespace Go.Proofs.YthddilflldkmfaaDoor
open Go.RowKit Go.Lib
theorem inf3 : (Tryd.prog.info? 3).map (fun i => (i.zero, i.size, decide (i.bytes ≤ 8))) = some (some (.int .i64 0), 1, true) := by kernel_rfl
/-- A list and two noughts behind it. -/
def tail2 (cs : List Int) : List Value := cs.map (Value.int .i64) ++ [.int .i64 0, .int .i64 0]
theorem tail2_at (cs : List Int) (j : Nat) (h : j < cs.length) : (tail2 cs)[j]? = some (.int .i64 (cs.getD j 0)) := by
  unfold tail2
  rw [List.getElem?_append_left (by simpa using h)]
  simp [h]
theorem tail2_n (cs : List Int) : (tail2 cs)[cs.length]? = some (.int .i64 0) := by
  unfold tail2
  rw [List.getElem?_append_right (by simp)]
  simp
theorem tail2_m (cs : List Int) : (tail2 cs)[cs.length + 1]? = some (.int .i64 0) := by
  unfold tail2
  rw [List.getElem?_append_right (by simp)]
  simp
set_option maxHeartbeats 8000000 in
set_option maxRecDepth 8000 in
theorem many_0 (b : Nat) (v : Value) (X : List UInt8) (E z : Nat) (X2 : List UInt8) (E2 : Nat) (x : Ro) (zs : List Int) (w : World) (h : WAt b v X E w) (h2 : ZAt z X2 E2 w) (hL : Lz x zs w) (hfit : x.Fit) (hpk : pk x.nn 6 = 0) (hz : ¬ foot b v z) (hl : 0 < x.ln → ∀ g q, x.lp = some ⟨g, q, none⟩ → ¬ foot b v g ∧ g ≠ z) (hX : X.length + 8 * x.ln ≤ 70368744177664) (hX2 : X2.length + 8 * x.ln ≤ 900000000000) (hln : x.ln ≤ 1000000000) :
    Calls Tryd.prog 19 #[.pointer (some ⟨b, 0, none⟩), .pointer (some ⟨z, 0, none⟩), .agg #[.int .i64 x.kd, .int .i64 x.on, .int .i64 x.sz, .int .i64 x.nn, .string ⟨x.s.toArray⟩, .slice x.lp x.ln x.lc]] w fun e w' => e = .returned (.bool true) ∧ MTo b v z (wNums X E x.sz zs) (zNums X2 E2 x.sz zs) w w' := by
  have HW := hide h
  have HZ := hide h2
  have HL := hide hL
  have HLP := hide hl
  have HNZ := hide hz
  have hPK := hide (fun W => pick_any x.nn 6 W hfit.b3.1 hfit.b3.2 (by decide) (by decide))
  rw [hpk] at hPK
  have HX := hide (And.intro hX hX2)
  have hub : b < w.heap.size := lt_of_row h.row
  have huv : ∀ q, v.ownBlock = some q → q < w.heap.size := fun q e => ((World.ownsRowF_of h.own).lt q e).2
  have HUB := hide (And.intro hub huv)
  clear h h2 hL hl hz hpk hfit hX hX2 hub huv
  go_enter Tryd.func19, Tryd.ntmps19
  go_wp2_with fail
  refine (unhide hPK _).mono ?_
  rintro e w1 ⟨rfl, rfl⟩
  clear hPK
  have hb1 : Below w.heap.size w (w.alloc (.cells #[.int .i64 x.kd, .int .i64 x.on, .int .i64 x.sz, .int .i64 x.nn, .string ⟨x.s.toArray⟩, .slice x.lp x.ln x.lc] 33)) := (Below.refl _ _).alloc (Nat.le_refl _) _
  have hc1 : (w.alloc (.cells #[.int .i64 x.kd, .int .i64 x.on, .int .i64 x.sz, .int .i64 x.nn, .string ⟨x.s.toArray⟩, .slice x.lp x.ln x.lc] 33)).heap[w.heap.size]? = some (.cells #[.int .i64 x.kd, .int .i64 x.on, .int .i64 x.sz, .int .i64 x.nn, .string ⟨x.s.toArray⟩, .slice x.lp x.ln x.lc] 33 (0, 0)) := by
    show (w.heap.push _)[w.heap.size]? = _
    simp
  generalize w.alloc (.cells #[.int .i64 x.kd, .int .i64 x.on, .int .i64 x.sz, .int .i64 x.nn, .string ⟨x.s.toArray⟩, .slice x.lp x.ln x.lc] 33) = w1 at *
  have HRO := hide (show RoAt w1 w.heap.size 0 x from ⟨by rw [cell_of_row _ _ _ _ _ _ hc1]; rfl, by rw [cell_of_row _ _ _ _ _ _ hc1]; rfl, by rw [cell_of_row _ _ _ _ _ _ hc1]; rfl, by rw [cell_of_row _ _ _ _ _ _ hc1]; rfl, by rw [cell_of_row _ _ _ _ _ _ hc1]; rfl, by rw [cell_of_row _ _ _ _ _ _ hc1]; rfl⟩)
  have HB1 := hide hb1
  have HU1 := hide (lt_of_row hc1)
  clear hb1 hc1
  go_wp2_with (first
    | (refine make1 inf3 Tryd.underlying31 rfl (.tmp 86) (.tmp 86) rfl _ _ (x.ln + 2) (by rfl) (by rfl) (by omega) (by omega) (by omega) ?_; intro w2 hb2 k2; have d5 : w2.cell? ⟨w.heap.size, 5, none⟩ = some (.slice x.lp x.ln x.lc) := by (have := ((unhide HRO).keep (k2.block _ (unhide HU1))).c5; simpa using this))
    | (refine copyI rfl (.tmp 88) (.tmp 90) rfl w1.heap.size (x.ln + 2) (x.ln + 2) x.lp x.ln x.lc (by rfl) (by rfl) (List.replicate (x.ln + 2) (.int .i64 0)) zs hb2 (unhide HL).len ((unhide HL).below ((unhide HB1).trans (k2.mono (unhide HB1).size))).cell (unhide HL).nil (by omega) (by simp) ?_; intro w3 hb3 k3))
  have hg1 := unhide HU1
  have hbr : Below w.heap.size w w3 := ((unhide HB1).trans (k2.mono (unhide HB1).size)).trans ⟨k3.os, k3.tape, k3.output, k3.size, fun q hq => k3.block q (by have := k2.size; omega) (by omega)⟩
  have hro : RoAt w3 w.heap.size 0 x := ((unhide HRO).keep (k2.block _ hg1)).keep (k3.block _ (by have := k2.size; omega) (by omega))
  have hrw : Rw 3 w1.heap.size (tail2 zs) w3 := by
    have e : (List.replicate (x.ln + 2) (Value.int .i64 0)).drop x.ln = [.int .i64 0, .int .i64 0] := by rw [List.drop_replicate, show x.ln + 2 - x.ln = 2 by omega]; rfl
    rw [e] at hb3
    exact hb3
  clear hb2 k2 hb3 k3 HRO HB1 HU1 d5
  generalize w1.heap.size = g at *
  obtain ⟨u, hu⟩ : ∃ u, w.heap.size = u := ⟨_, rfl⟩
  rw [hu] at hro hg1 ⊢
  have hzs : Zs .i64 g x.ln zs w3 := by
    have e1 := (unhide HL).len
    refine ⟨e1, lt_of_row hrw, fun j hj => ?_⟩
    rw [hrw.cell, tail2_at zs j (by omega)]
  have hgf : ¬ foot b v g := by
    have := (unhide HUB).1
    rintro (q | q)
    · omega
    · have := (unhide HUB).2 g q
      omega
  have huf : ¬ foot b v u := by
    have := (unhide HUB).1
    rintro (q | q)
    · omega
    · have := (unhide HUB).2 u q
      omega
  have ho0 : Only (fun _ => False) w w3 := ⟨hbr.os, hbr.tape, hbr.output, hbr.size, fun q hq _ => hbr.block q hq⟩
  have HNM := hide (nums_int b v X E x.sz g x.ln (x.ln + 2) zs w3 ((unhide HW).keep ho0 (fun q => q) (fun _ _ q => q)) hzs (unhide HL).fit hgf (unhide HX).1)
  have HNM2 := hide (fun n2 : Nat => nums_int b v X E x.sz g x.ln (x.ln + 2) zs (w3.drewN n2) (((unhide HW).keep ho0 (fun q => q) (fun _ _ q => q)).keep (Only.drewN (fun _ => False) w3 n2) (fun q => q) (fun _ _ q => q)) hzs (unhide HL).fit hgf (unhide HX).1)
  have HB3 := hide hbr
  have HF3 := hide (And.intro hgf huf)
  have HRW := hide hrw
  have HRO4 := hide (And.intro hro (block_lt_of_cell hro.c0))
  have HD2 := hide hro.c2
  clear hzs hgf huf ho0 hbr hrw hro HNM
  go_wp2_with fail
  refine rmn b u g (x.ln + 2) (x.ln + 2) x.ln x.sz rfl rfl rfl _ _ (show 99 ≤ 351 from by decide) rfl rfl rfl rfl (WdC 6 (fun W => WTo b v (wNums X E x.sz zs).1 (wNums X E x.sz zs).2 w3 W) w3) ?h0 ?hp (by omega) ?l2 ?c6 ?_
  case h0 => exact WdC.start _ _ _
  case hp => exact fun i hi L W hW => hW.pure i (by intro e; subst e; simp at hi)
  case l2 => exact fun L W hW => (World.cell?_of_block (hW.block (fun _ q => (Exists.choose_spec q).2.1) u (unhide HRO4).2 (unhide HF3).2)).trans (unhide HD2)
  case c6 =>
    intro L W hW hc
    obtain ⟨n2, rfl⟩ := hW.call hc
    exact (unhide HNM2 n2).mono (fun e w' h => ⟨h.1, WdC.post h.2.of_drewN⟩)
  intro L w4 hall hW4
  have hto := hW4.done (hall 6 (by decide))
  clear hall hW4
  obtain ⟨v', hA, hO, hF⟩ := hto
  have HA := hide hA
  have HO := hide hO
  have HF := hide hF
  have HZ3 := hide (((unhide HZ).keep (P := fun _ => False) ⟨(unhide HB3).os, (unhide HB3).tape, (unhide HB3).output, (unhide HB3).size, fun q hq _ => (unhide HB3).block q hq⟩ (fun q => q)).keep hO (unhide HNZ))
  have HR3 := hide ((unhide HRW).keep hO (unhide HF3).1)
  have HU3 := hide (And.intro ((unhide HRO4).1.keep (hO.block u (unhide HRO4).2 (unhide HF3).2)) (Nat.lt_of_lt_of_le (unhide HRO4).2 hO.size))
  have HL3 := hide (((unhide HL).below (unhide HB3)).keepP (fun h0 gg q e hq => hO.block gg hq ((unhide HLP) h0 gg q e).1))
  clear hA hO hF HNM2 HRW HRO4 HD2
  simp only [put_list, List.set_cons_succ, List.set_cons_zero]
  go_wp2
  go_loopw [8, 10] (fun ok i wq => ok = .bool true ∧ ∃ k : Nat, k ≤ x.ln ∧ i = .int .i64 k ∧ ZAt z (zNums X2 E2 x.sz (zs.take k)).1 (zNums X2 E2 x.sz (zs.take k)).2 wq ∧ Only (fun q => q = z) w4 wq) (fun _ i _ => x.ln - (Go.RowKit.intOf i).toNat)
  case atStart => exact ⟨rfl, 0, by omega, rfl, unhide HZ3, Only.refl _ _⟩
  case round =>
    obtain ⟨rfl, k, hk, rfl, hzq, hoq⟩ := hrel
    have hzl := lt_of_row (unhide HZ)
    have huz : u ≠ z := by omega
    have hgz : g ≠ z := by omega
    by_cases hlt : k < x.ln
    · have hlt' : (k : Int) < (x.ln : Int) := by omega
      obtain ⟨gl, ql, hlp, hlc⟩ := (unhide HL3).cell (by omega)
      have hglz := (unhide HLP (by omega) gl ql hlp).2
      have hcell : wr.cell? ⟨gl, ql + k, none⟩ = some (.int .i64 (zs.getD k 0)) := (World.cell?_of_block (hoq.block gl (block_lt_of_cell (hlc k hlt)) hglz)).trans (hlc k hlt)
      have heu := hoq.block u (unhide HU3).2 huz
      have d5 : wr.cell? ⟨u, 0 + 5, none⟩ = some (.slice (some ⟨gl, ql, none⟩) x.ln x.lc) := by rw [← hlp]; exact (World.cell?_of_block heu).trans (unhide HU3).1.c5
      have d2 : wr.cell? ⟨u, 0 + 2, none⟩ = some (.int .i64 x.sz) := (World.cell?_of_block heu).trans (unhide HU3).1.c2
      have dg : wr.cell? ⟨g, 0 + k, none⟩ = some (.int .i64 (zs.getD k 0)) := by
        rw [Nat.zero_add]
        refine (World.cell?_of_block (hoq.block g (lt_of_row (unhide HR3)) hgz)).trans ?_
        have e1 := (unhide HL).len
        rw [(unhide HR3).cell, tail2_at zs k (by omega)]
      have hcf := (unhide HL).fit (zs.getD k 0) (by have h3 := (unhide HL).len; rw [List.getD_eq_getElem?_getD, List.getElem?_eq_getElem (by omega)]; exact List.getElem_mem _)
      have HNX := hide (zNums_next X2 E2 x.sz zs k (by have := (unhide HL).len; omega))
      have hzlen := zNums_len X2 E2 x.sz zs k (by have := (unhide HL).len; omega)
      have HZN := hide (fun (W : World) (q : ZAt z (zNums X2 E2 x.sz (zs.take k)).1 (zNums X2 E2 x.sz (zs.take k)).2 W) => znum_any z _ _ x.sz (zs.getD k 0) W q hcf.2 (by have := (unhide HX).2; omega))
      have HZQ := hide hzq
      have HOQ := hide hoq
      have hlu : u < wr.heap.size := Nat.lt_of_lt_of_le (unhide HU3).2 hoq.size
      have hlg : gl < wr.heap.size := block_lt_of_cell hcell
      generalize zs.getD k 0 = c at *
      have HD5 := hide d5
      have HD2 := hide d2
      have HDG := hide dg
      have HDL := hide hcell
      clear d5 d2 dg hcell hzq hoq heu hlc hzlen
      go_wp2_with fail
      refine rmc0 g (x.ln + 2) (x.ln + 2) u gl ql x.ln x.lc k c  rfl rfl rfl _ _ (show 117 ≤ 351 from by decide) rfl rfl rfl rfl (WdL 13 wr) ?h0 ?hp ?hcl ?hlate (by omega) hlt ?l5 ?l7 ?l10  ?_
      case h0 => exact WdL.start _ _
      case hp => exact fun i hi L W hW => hW.step i (by intro e; subst e; simp at hi)
      case hcl => exact fun L W hW h => hW.2 h
      case hlate => exact fun L W hW h0 => ⟨hW.1, fun _ => updl_of h0⟩
      case l5 => exact fun L W hW => (by obtain ⟨nq, rfl⟩ := hW.1; exact unhide HDG)
      case l7 => exact fun L W hW => (by obtain ⟨nq, rfl⟩ := hW.1; exact unhide HD5)
      case l10 => exact fun L W hW => (by obtain ⟨nq, rfl⟩ := hW.1; exact unhide HDL)
      intro L W _ hW
      obtain ⟨nq, hnq⟩ := hW.1
      have HZV := hide (show ZAt z (zNums X2 E2 x.sz (zs.take k)).1 (zNums X2 E2 x.sz (zs.take k)).2 W by rw [hnq]; exact unhide HZQ)
      have HOV := hide (show Only (fun q => q = z) w4 W by rw [hnq]; exact (unhide HOQ).trans (Only.drewN (fun _ => False) wr nq) (fun _ _ q => q.elim))
      have HEV := hide (show W.heap = wr.heap by rw [hnq]; rfl)
      clear hnq hW HZQ HOQ
      simp only [put_list, List.set_cons_succ, List.set_cons_zero]
      go_wp2_with fail
      have hcb : ∀ (gg j : Nat) (vv : Value), gg < wr.heap.size → gg ≠ z → wr.cell? ⟨gg, j, none⟩ = some vv → ∀ L W', WdC 8 (fun W' => ZTo z (zNums X2 E2 x.sz (zs.take (k + 1))).1 (zNums X2 E2 x.sz (zs.take (k + 1))).2 W W') W L W' → W'.cell? ⟨gg, j, none⟩ = some vv := by
        intro gg j vv hg1 hg2 hg3 L W' hW'
        rw [World.cell?_of_block (hW'.block (fun _ q => q.2) gg (by rw [unhide HEV]; exact hg1) hg2), World.cell?_of_block (show W.heap[gg]? = wr.heap[gg]? by rw [unhide HEV])]
        exact hg3
      refine rmz0 z u gl ql x.ln x.lc k x.sz c  rfl rfl rfl _ _ (show 126 ≤ 351 from by decide) rfl rfl rfl (WdC 8 (fun W' => ZTo z (zNums X2 E2 x.sz (zs.take (k + 1))).1 (zNums X2 E2 x.sz (zs.take (k + 1))).2 W W') W) ?h0 ?hp hlt ?l2 ?l4 ?l7  ?c8 ?_
      case h0 => exact WdC.start _ _ _
      case hp => exact fun i hi L W hW => hW.pure i (by intro e; subst e; simp at hi)
      case l2 => exact hcb u _ _ hlu huz (unhide HD2)
      case l4 => exact hcb u _ _ hlu huz (unhide HD5)
      case l7 => exact hcb gl _ _ hlg hglz (unhide HDL)
      case c8 =>
        intro L W' hW' hc
        obtain ⟨n2, rfl⟩ := hW'.call hc
        refine (unhide HZN (W.drewN n2) (unhide HZV)).mono ?_
        rintro e w5 ⟨rfl, hz5⟩
        refine ⟨rfl, WdC.post ?_⟩
        rw [unhide HNX]
        exact hz5.of_drewN
      intro L W5 hall hW5
      have hp5 := hW5.done (hall 8 (by decide))
      have HZ5 := hide hp5.1
      have HO5 := hide ((unhide HOV).trans hp5.2 (fun _ _ q => q))
      clear hp5 hW5 hall hcb
      simp only [put_list, List.set_cons_succ, List.set_cons_zero]
      go_wp2
      refine ⟨⟨rfl, k + 1, by omega, by go_num, unhide HZ5, unhide HO5⟩, ?_⟩
      simp [Go.RowKit.intOf]; omega
    · have hd : decide (k < x.ln) = false := by simp; omega
      have hlt' : ¬ (k : Int) < (x.ln : Int) := by omega
      have e1 := (unhide HL).len
      have e : zs.take k = zs := List.take_of_length_le (by omega)
      rw [e] at hzq
      have heg := hoq.block g (lt_of_row (unhide HR3)) hgz
      have dn : wr.cell? ⟨g, x.ln, none⟩ = some (.int .i64 0) := by
        rw [World.cell?_of_block heg, (unhide HR3).cell, e1, tail2_n]
      have dm : wr.cell? ⟨g, x.ln + 1, none⟩ = some (.int .i64 0) := by
        rw [World.cell?_of_block heg, (unhide HR3).cell, e1, tail2_m]
      clear e1 e heg
      have HE := hide (show MTo b v z (wNums X E x.sz zs) (zNums X2 E2 x.sz zs) w wr from by
        have hb3 := unhide HB3
        have hO := unhide HO
        refine ⟨v', (unhide HA).keep hoq (fun q => (unhide HNZ) (.inl q.symm)) (fun q e1 e2 => ?_), hzq, ?_, fun q e1 => ?_⟩
        · rcases unhide HF q e1 with q1 | q1
          · exact (unhide HNZ) (.inr (by rw [← e2]; exact q1))
          · have := hb3.size; omega
        · have o1 : Only (fun q => foot b v q ∨ q = z) w w4 := ⟨hO.os.trans hb3.os, hO.tape.trans hb3.tape, hO.output.trans hb3.output, Nat.le_trans hb3.size hO.size, fun q hq hn => (hO.block q (Nat.lt_of_lt_of_le hq hb3.size) (fun f => hn (.inl f))).trans (hb3.block q hq)⟩
          exact o1.trans hoq (fun _ _ q => .inr q)
        · rcases unhide HF q e1 with q1 | q1
          · exact .inl q1
          · exact .inr (Nat.le_trans hb3.size q1))
      clear hzq hoq
      go_wp2
      go_ret
      exact ⟨rfl, unhide HE⟩
end Go.Proofs.YthddilflldkmfaaDoor
