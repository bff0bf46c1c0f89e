import Derived.Test.YtllialbdofklgaaGreatDoorZnpa
import Derived.Test.YtllialbdofklgaaGreatDoorZrgsd
import Derived.Test.YtllialbdofklgaaGreatDoorZnpp
namespace Go.Proofs.YtllialbdofklgaaGreatDoor
open Go.RowKit
set_option maxHeartbeats 40000000
set_option maxRecDepth 20000
theorem SS.cell {w0 : World} {tag0 tag : Nat → Tg} {Z : Nat} {cs : Array Value} {w : World} (h : SS w0 tag0 Z cs tag w) (j : Nat) : w.cell? ⟨Z, j, none⟩ = cs[j]? := cell_of_row w Z j _ 36 (0, 0) h.blk
/-- What holds of the world while a mark is laid. -/
def WdK (wr : World) (g k : Nat) (m : Bs) (L : Nat → Bool) (W : World) : Prop :=
  (L 11 = false ∧ Below wr.heap.size wr W) ∨ (L 11 = true ∧ L 9 = true ∧ ∃ W0, Below wr.heap.size wr W0 ∧ W = W0.setCell ⟨g, k, none⟩ (S m))
theorem upd_of' {L : Nat → Bool} {i j : Nat} (h : L j = true) : upd L i j = true := by by_cases e : j = i <;> simp [upd, e, h]
theorem WdK.pure {wr : World} {g k : Nat} {m : Bs} {L : Nat → Bool} {W : World} (h : WdK wr g k m L W) (x : Nat) (h8 : x ≠ 11) : WdK wr g k m (upd L x) W := by
  rcases h with ⟨h1, h2⟩ | ⟨h1, h2, h3⟩
  · exact .inl ⟨(upd_ne (Ne.symm h8)).trans h1, h2⟩
  · exact .inr ⟨upd_of' h1, upd_of' h2, h3⟩
theorem WdK.block {wr : World} {g k : Nat} {m : Bs} {L : Nat → Bool} {W : World} (h : WdK wr g k m L W) (G : Nat) (hG : G < wr.heap.size) (hne : G ≠ g) : W.heap[G]? = wr.heap[G]? := by
  rcases h with ⟨h1, h2⟩ | ⟨h1, h2, W0, h3, rfl⟩
  · exact h2.block G hG
  · rw [heap_setCell_other _ _ _ _ hne]
    exact h3.block G hG
theorem apart_any (w : World) (tag : Nat → Tg) (Z N1 N2 : Nat) (vs1 vs2 : Nat → Value) (L1 : Nat → List Bs) (L2 : Nat → List Int) (pf1 pf2 pw1 pw2 : Option Addr) (cf1 cf2 cw1 cw2 : Nat)
    (h : S4 w tag Z #[.slice pf1 N1 cf1, .slice pw1 N1 cw1, .slice pf2 N2 cf2, .slice pw2 N2 cw2] tag N1 vs1 (fun i => (L1 i).length) (fun i => (L1 i).map S) (.slice pf1 N1 cf1) 0 (.slice none 0 0) [] (.slice none 0 0) 0 N2 vs2 (fun i => (L2 i).length) (fun i => (L2 i).map fun z => I z) (.slice pf2 N2 cf2) 0 (.slice none 0 0) [] (.slice none 0 0) 0 w)
    (hw1 : ∀ i, i < N1 → ∃ H p2 c2, pw1 = some ⟨H, 0, none⟩ ∧ w.cell? ⟨H, i, none⟩ = some (.slice p2 (L1 i).length c2) ∧ Sts w p2 (L1 i).length (L1 i))
    (hw2 : ∀ i, i < N2 → ∃ H p2 c2, pw2 = some ⟨H, 0, none⟩ ∧ w.cell? ⟨H, i, none⟩ = some (.slice p2 (L2 i).length c2) ∧ Ins w p2 (L2 i).length (L2 i))
    (hb1 : N1 ≤ 10000000) (hb2 : N2 ≤ 10000000) :
    Calls Tryz.prog 24 #[.pointer (some ⟨Z, 0, none⟩)] w fun e w' => e = .returned (.bool true) ∧ Only (fun k => Md (tag k)) w w' := by
  have HS := hide h
  have HW1 := hide hw1
  have HW2 := hide hw2
  have hZ := lt_of_row h.s.blk
  clear h hw1 hw2
  go_enter Tryz.func24, Tryz.ntmps24
  go_wp2
  go_loopw [3] (fun i wr => ∃ k : Nat, k ≤ N1 ∧ i = .int .i64 k ∧ Below w.heap.size w wr) (fun i _ => N1 - (Go.RowKit.intOf i).toNat)
  case atStart => exact ⟨0, by omega, rfl, Below.refl _ _⟩
  case round =>
  obtain ⟨r, hr, rfl, hb⟩ := hrel
  have z0 : wr.cell? ⟨Z, 0, none⟩ = some (.slice pf1 N1 cf1) := (hb.cell (p := ⟨Z, 0, none⟩) hZ).trans ((unhide HS).s.cell 0)
  have z1 : wr.cell? ⟨Z, 1, none⟩ = some (.slice pw1 N1 cw1) := (hb.cell (p := ⟨Z, 1, none⟩) hZ).trans ((unhide HS).s.cell 1)
  have hZr : Z < wr.heap.size := Nat.lt_of_lt_of_le hZ hb.size
  by_cases hlt : r < N1
  · have hlt' : (r : Int) < (N1 : Int) := by omega
    obtain ⟨G, cG, eG, hG, -⟩ := (unhide HS).b1.at hlt
    cases eG
    obtain ⟨H, p2, c2, eH, hH, e4⟩ := unhide HW1 r hlt
    subst eH
    obtain ⟨p, c, e1, e2, -⟩ := Sts.of ((unhide HS).b1.fl r (Nat.zero_le _) hlt)
    have hsm := (unhide HS).b1.sm r hlt
    have HB := hide hb
    have HB2 := hide (show ∀ W : World, Below wr.heap.size wr W → Below w.heap.size w W from fun _ k => hb.trans (k.mono hb.size))
    have hGl := blk_lt hG
    have hHl := blk_lt hH
    rw [e1] at hG
    clear hb
    go_wp2_with fail
    refine rsa Z G N1 cf1 H N1 cw1 r (.slice p (L1 r).length c) (.slice p2 (L1 r).length c2) rfl rfl rfl _ _ (show 47 ≤ 249 from by decide) rfl rfl (fun _ W => Below wr.heap.size wr W) ?h0 ?hp hlt hlt ?l3 ?l6 ?l10 ?l13 ?c14 ?_
    case h0 => exact (Below.refl _ _).drew
    case hp => exact fun _ _ _ _ h => h
    case l3 => exact fun _ W h => (World.cell?_of_block (h.block Z hZr)).trans z0
    case l6 =>
      intro _ W h
      rw [Nat.zero_add]
      exact (World.cell?_of_block ((unhide HB2 _ h).block G hGl)).trans hG
    case l10 => exact fun _ W h => (World.cell?_of_block (h.block Z hZr)).trans z1
    case l13 =>
      intro _ W h
      rw [Nat.zero_add]
      exact (World.cell?_of_block ((unhide HB2 _ h).block H hHl)).trans hH
    case c14 =>
      intro _ W h _
      refine (texts_any p p2 (L1 r).length (L1 r).length c c2 (L1 r) (L1 r) W (e2.below (unhide HB2 _ h)) (e4.below (unhide HB2 _ h)) (by omega) (by omega)).mono ?_
      rintro e w2 ⟨rfl, q, rfl⟩
      exact ⟨by simp, bel_q h q⟩
    intro L W _ hW
    have HN := hide (unhide HB2 _ hW)
    clear hW z0 z1 e1 e2 e4 hG hH
    simp only [Act.put, List.setIfInBounds_toArray, List.set_cons_succ, List.set_cons_zero]
    go_wp2
    refine ⟨⟨r + 1, by omega, by go_num, unhide HN⟩, ?_⟩
    simp [Go.RowKit.intOf]; omega
  · have hlt' : ¬ (r : Int) < (N1 : Int) := by omega
    have hd : decide (r < N1) = false := by simp; omega
    clear z1
    have HB1 := hide hb
    clear hb
    go_wp2
    clear z0 hZr hlt hlt' hd
    go_loopw [5] (fun i wr => ∃ k : Nat, k ≤ N2 ∧ i = .int .i64 k ∧ Below w.heap.size w wr) (fun i _ => N2 - (Go.RowKit.intOf i).toNat)
    case atStart => exact ⟨0, by omega, rfl, unhide HB1⟩
    case round =>
    obtain ⟨r, hr, rfl, hb⟩ := hrel
    have z0 : wr.cell? ⟨Z, 2, none⟩ = some (.slice pf2 N2 cf2) := (hb.cell (p := ⟨Z, 2, none⟩) hZ).trans ((unhide HS).s.cell 2)
    have z1 : wr.cell? ⟨Z, 3, none⟩ = some (.slice pw2 N2 cw2) := (hb.cell (p := ⟨Z, 3, none⟩) hZ).trans ((unhide HS).s.cell 3)
    have hZr : Z < wr.heap.size := Nat.lt_of_lt_of_le hZ hb.size
    by_cases hlt : r < N2
    · have hlt' : (r : Int) < (N2 : Int) := by omega
      obtain ⟨G, cG, eG, hG, -⟩ := (unhide HS).b2.at hlt
      cases eG
      obtain ⟨H, p2, c2, eH, hH, e4⟩ := unhide HW2 r hlt
      subst eH
      obtain ⟨p, c, e1, e2, -⟩ := Ins.of ((unhide HS).b2.fl r (Nat.zero_le _) hlt)
      have hsm := (unhide HS).b2.sm r hlt
      have HB := hide hb
      have HB2 := hide (show ∀ W : World, Below wr.heap.size wr W → Below w.heap.size w W from fun _ k => hb.trans (k.mono hb.size))
      have hGl := blk_lt hG
      have hHl := blk_lt hH
      rw [e1] at hG
      clear hb
      go_wp2_with fail
      refine rsw Z G N2 cf2 H N2 cw2 r (.slice p (L2 r).length c) (.slice p2 (L2 r).length c2) rfl rfl rfl _ _ (show 73 ≤ 249 from by decide) rfl rfl (fun _ W => Below wr.heap.size wr W) ?h0 ?hp hlt hlt ?l3 ?l6 ?l10 ?l13 ?c14 ?_
      case h0 => exact (Below.refl _ _).drew
      case hp => exact fun _ _ _ _ h => h
      case l3 => exact fun _ W h => (World.cell?_of_block (h.block Z hZr)).trans z0
      case l6 =>
        intro _ W h
        rw [Nat.zero_add]
        exact (World.cell?_of_block ((unhide HB2 _ h).block G hGl)).trans hG
      case l10 => exact fun _ W h => (World.cell?_of_block (h.block Z hZr)).trans z1
      case l13 =>
        intro _ W h
        rw [Nat.zero_add]
        exact (World.cell?_of_block ((unhide HB2 _ h).block H hHl)).trans hH
      case c14 =>
        intro _ W h _
        refine (ints_any p p2 (L2 r).length (L2 r).length c c2 (L2 r) (L2 r) W (e2.below (unhide HB2 _ h)) (e4.below (unhide HB2 _ h)) (by omega) (by omega)).mono ?_
        rintro e w2 ⟨rfl, q, rfl⟩
        exact ⟨by simp, bel_q h q⟩
      intro L W _ hW
      have HN := hide (unhide HB2 _ hW)
      clear hW z0 z1 e1 e2 e4 hG hH
      simp only [Act.put, List.setIfInBounds_toArray, List.set_cons_succ, List.set_cons_zero]
      go_wp2
      refine ⟨⟨r + 1, by omega, by go_num, unhide HN⟩, ?_⟩
      simp [Go.RowKit.intOf]; omega
    · have hlt' : ¬ (r : Int) < (N2 : Int) := by omega
      have hd : decide (r < N2) = false := by simp; omega
      clear z1
      have hq1 := (unhide HS).below hb
      have HS2 := hide hq1
      clear hb hq1 HS HW1 HW2
      go_wp2
      clear z0 hlt hlt' hd hZr
      go_loopw [7] (fun x wr => ∃ i : Nat, i ≤ N1 ∧ x = .int .i64 i ∧ S4 w tag Z #[.slice pf1 N1 cf1, .slice pw1 N1 cw1, .slice pf2 N2 cf2, .slice pw2 N2 cw2] tag N1 vs1 (fun i => (L1 i).length) (prt mkS 1 (fun i => (L1 i).length) (fun i => (L1 i).map S) i 0) (.slice pf1 N1 cf1) 0 (.slice none 0 0) [] (.slice none 0 0) 0 N2 vs2 (fun i => (L2 i).length) (fun i => (L2 i).map fun z => I z) (.slice pf2 N2 cf2) 0 (.slice none 0 0) [] (.slice none 0 0) 0 wr) (fun x _ => N1 - (Go.RowKit.intOf x).toNat)
      case atStart => exact ⟨0, by omega, rfl, by rw [prt_zero]; exact unhide HS2⟩
      case round =>
      clear HS2
      obtain ⟨i, hi, rfl, hq⟩ := hrel
      have z0 : wr.cell? ⟨Z, 0, none⟩ = some (.slice pf1 N1 cf1) := hq.s.cell 0
      have hZr := lt_of_row hq.s.blk
      by_cases hlt : i < N1
      · have hlt' : (i : Int) < (N1 : Int) := by omega
        have hr0 := hide hq
        clear hq
        go_wp2
        clear z0
        go_loopw [8] (fun x wq => ∃ k : Nat, k ≤ (L1 i).length ∧ x = .int .i64 k ∧ S4 w tag Z #[.slice pf1 N1 cf1, .slice pw1 N1 cw1, .slice pf2 N2 cf2, .slice pw2 N2 cw2] tag N1 vs1 (fun i => (L1 i).length) (prt mkS 1 (fun i => (L1 i).length) (fun i => (L1 i).map S) i k) (.slice pf1 N1 cf1) 0 (.slice none 0 0) [] (.slice none 0 0) 0 N2 vs2 (fun i => (L2 i).length) (fun i => (L2 i).map fun z => I z) (.slice pf2 N2 cf2) 0 (.slice none 0 0) [] (.slice none 0 0) 0 wq) (fun x _ => (L1 i).length - (Go.RowKit.intOf x).toNat)
        case atStart => exact ⟨0, by omega, rfl, unhide hr0⟩
        case round =>
          clear hr0
          obtain ⟨k, hk, rfl, hq⟩ := hrel
          have z0 : wr.cell? ⟨Z, 0, none⟩ = some (.slice pf1 N1 cf1) := hq.s.cell 0
          have hZr2 := lt_of_row hq.s.blk
          obtain ⟨G, cG, eG, hG, hGt⟩ := hq.b1.at hlt
          cases eG
          obtain ⟨pv, cv, hv⟩ := owns_form (hq.b1.fl i (Nat.zero_le _) hlt)
          have hsm := hq.b1.sm i hlt
          by_cases hkl : k < (L1 i).length
          · have hkl' : (k : Int) < ((L1 i).length : Int) := by omega
            obtain ⟨g, cg, cur, e1, e2, -⟩ := owns_at (hq.b1.fl i (Nat.zero_le _) hlt) (show 0 < (L1 i).length by omega)
            have hgt := hq.b1.ft i (Nat.zero_le _) hlt g (by rw [e1]; rfl)
            have hgZ : Z ≠ g := fun e => by rw [← e, hq.s.tz] at hgt; exact absurd hgt (tg_ne (by decide))
            have hgG : G ≠ g := fun e => by rw [← e, hGt] at hgt; exact absurd hgt (tg_ne (by decide))
            have hgl := lt_of_row e2
            have hrow := hq.b1.fl i (Nat.zero_le _) hlt
            rw [e1] at hrow hG
            have hcc : ∃ u, ((prt mkS 1 (fun i => (L1 i).length) (fun i => (L1 i).map S) i k) i)[k]? = some u := ⟨((prt mkS 1 (fun i => (L1 i).length) (fun i => (L1 i).map S) i k) i)[k]'(by have := hrow.1; omega), List.getElem?_eq_getElem (by have := hrow.1; omega)⟩
            obtain ⟨u0, hu0⟩ := hcc
            have hu1 := owns_cell hrow k u0 hu0
            have hGl := blk_lt hG
            have HQ := hide hq
            have hZr := lt_of_row hq.s.blk
            have HM := hide (fun W => mark_any i W)
            have HSt := hide (prt_step (mk := mkS) (sz := 1) (ns := (fun i => (L1 i).length)) (C := (fun i => (L1 i).map S)) i k _ (prt_set1 (fun i => (L1 i).length) (fun i => (L1 i).map S) i k (by simp) hkl))
            clear hq
            generalize mkv i = mv at *
            go_wp2_with fail
            refine rsm Z G N1 cf1 g (L1 i).length cg i k mv rfl rfl rfl _ _ (show 107 ≤ 249 from by decide) rfl rfl rfl (WdK wr g k mv) ?h0 ?hp hlt hkl ?l3 ?l6 ?c9 ?n11 ?_
            case h0 => exact .inl ⟨rfl, (Below.refl _ _).drew⟩
            case hp => exact fun x hx L W hW => hW.pure x (by intro e; subst e; simp at hx)
            case l3 =>
              intro L W hW
              exact (World.cell?_of_block (hW.block Z hZr hgZ)).trans z0
            case l6 =>
              intro L W hW
              rw [Nat.zero_add]
              exact (World.cell?_of_block (hW.block G hGl hgG)).trans hG
            case c9 =>
              intro L W hW h6
              refine (unhide HM W).mono ?_
              rintro e w2 ⟨rfl, hb⟩
              refine ⟨rfl, ?_⟩
              rcases hW with ⟨h1, h2⟩ | ⟨_, h2, _⟩
              · exact .inl ⟨(upd_ne (by decide)).trans h1, h2.trans (hb.mono h2.size)⟩
              · rw [h6] at h2; cases h2
            case n11 =>
              intro L W hW h8 h6 _
              rw [Nat.zero_add]
              rcases hW with ⟨h1, h2⟩ | ⟨h1, _⟩
              · have q := h2.block g hgl
                exact ⟨.inr ⟨upd_eq _ _, upd_of' h6, W, h2, rfl⟩, ⟨u0, (World.cell?_of_block q).trans hu1⟩, frz (q.trans e2) k⟩
              · rw [h8] at h1; cases h1
            intro L W hall hW
            have hW8 := hall 11 (by decide)
            obtain ⟨W0, hb0, hWe⟩ : ∃ W0, Below wr.heap.size wr W0 ∧ W = W0.setCell ⟨g, k, none⟩ (S mv) := by
              rcases hW with ⟨h1, _⟩ | ⟨_, _, h3⟩
              · rw [hW8] at h1; cases h1
              · exact h3
            have q1 := (unhide HQ).below hb0
            have q2 := owns_set (owns_below hrow hb0) k (S mv)
            rw [← e1, ← hWe] at q2
            have q3 := q1.mark1 (Nat.zero_le _) q2 (hWe ▸ Only.setCell W0 ⟨g, k, none⟩ (S mv)) (fun k' q _ => by rw [show k' = g from q]; exact hgt)
            rw [unhide HSt] at q3
            have HN := hide q3
            clear q1 q2 q3 hW hWe hb0 hall hW8 z0 hG hrow e1 e2 hu0 hu1 HQ HSt HM
            simp only [Act.put, List.setIfInBounds_toArray, List.set_cons_succ, List.set_cons_zero]
            go_wp2
            refine ⟨⟨k + 1, by omega, by go_num, unhide HN⟩, ?_⟩
            simp [Go.RowKit.intOf]; omega
          · have hkl' : ¬ (k : Int) < ((L1 i).length : Int) := by omega
            have hd' : decide (k < (L1 i).length) = false := by simp; omega
            have hke : k = (L1 i).length := by omega
            have hGl := blk_lt hG
            rw [hv] at hG
            have hpn : (prt mkS 1 (fun i => (L1 i).length) (fun i => (L1 i).map S) i (L1 i).length) = (prt mkS 1 (fun i => (L1 i).length) (fun i => (L1 i).map S) (i + 1) 0) := prt_next i (by simp)
            rw [hke, hpn] at hq
            have HN := hide hq
            clear hq hke hv hpn
            go_wp2
            refine ⟨⟨i + 1, by omega, by go_num, unhide HN⟩, ?_⟩
            simp [Go.RowKit.intOf]; omega
      · have hlt' : ¬ (i : Int) < (N1 : Int) := by omega
        have hd : decide (i < N1) = false := by simp; omega
        have hiN : i = N1 := by omega
        rw [hiN] at hq
        clear hiN
        have HS2 := hide hq
        clear hq
        go_wp2
        clear z0 hlt hlt' hd hZr
        go_loopw [9] (fun x wr => ∃ i : Nat, i ≤ N2 ∧ x = .int .i64 i ∧ S4 w tag Z #[.slice pf1 N1 cf1, .slice pw1 N1 cw1, .slice pf2 N2 cf2, .slice pw2 N2 cw2] tag N1 vs1 (fun i => (L1 i).length) (prt mkS 1 (fun i => (L1 i).length) (fun i => (L1 i).map S) N1 0) (.slice pf1 N1 cf1) 0 (.slice none 0 0) [] (.slice none 0 0) 0 N2 vs2 (fun i => (L2 i).length) (prt mkI 1 (fun i => (L2 i).length) (fun i => (L2 i).map fun z => I z) i 0) (.slice pf2 N2 cf2) 0 (.slice none 0 0) [] (.slice none 0 0) 0 wr) (fun x _ => N2 - (Go.RowKit.intOf x).toNat)
        case atStart => exact ⟨0, by omega, rfl, by rw [prt_zero]; exact unhide HS2⟩
        case round =>
        clear HS2
        obtain ⟨i, hi, rfl, hq⟩ := hrel
        have z0 : wr.cell? ⟨Z, 2, none⟩ = some (.slice pf2 N2 cf2) := hq.s.cell 2
        have hZr := lt_of_row hq.s.blk
        by_cases hlt : i < N2
        · have hlt' : (i : Int) < (N2 : Int) := by omega
          have hr0 := hide hq
          clear hq
          go_wp2
          clear z0
          go_loopw [10] (fun x wq => ∃ k : Nat, k ≤ (L2 i).length ∧ x = .int .i64 k ∧ S4 w tag Z #[.slice pf1 N1 cf1, .slice pw1 N1 cw1, .slice pf2 N2 cf2, .slice pw2 N2 cw2] tag N1 vs1 (fun i => (L1 i).length) (prt mkS 1 (fun i => (L1 i).length) (fun i => (L1 i).map S) N1 0) (.slice pf1 N1 cf1) 0 (.slice none 0 0) [] (.slice none 0 0) 0 N2 vs2 (fun i => (L2 i).length) (prt mkI 1 (fun i => (L2 i).length) (fun i => (L2 i).map fun z => I z) i k) (.slice pf2 N2 cf2) 0 (.slice none 0 0) [] (.slice none 0 0) 0 wq) (fun x _ => (L2 i).length - (Go.RowKit.intOf x).toNat)
          case atStart => exact ⟨0, by omega, rfl, unhide hr0⟩
          case round =>
            clear hr0
            obtain ⟨k, hk, rfl, hq⟩ := hrel
            have z0 : wr.cell? ⟨Z, 2, none⟩ = some (.slice pf2 N2 cf2) := hq.s.cell 2
            have hZr2 := lt_of_row hq.s.blk
            obtain ⟨G, cG, eG, hG, hGt⟩ := hq.b2.at hlt
            cases eG
            obtain ⟨pv, cv, hv⟩ := owns_form (hq.b2.fl i (Nat.zero_le _) hlt)
            have hsm := hq.b2.sm i hlt
            by_cases hkl : k < (L2 i).length
            · have hkl' : (k : Int) < ((L2 i).length : Int) := by omega
              obtain ⟨g, cg, cur, e1, e2, -⟩ := owns_at (hq.b2.fl i (Nat.zero_le _) hlt) (show 0 < (L2 i).length by omega)
              have hgt := hq.b2.ft i (Nat.zero_le _) hlt g (by rw [e1]; rfl)
              have hgl := lt_of_row e2
              have hrow := hq.b2.fl i (Nat.zero_le _) hlt
              have hro := hrow
              rw [e1] at hrow hG
              have hlen := hrow.1
              obtain ⟨u0, hu0⟩ : ∃ u, ((prt mkI 1 (fun i => (L2 i).length) (fun i => (L2 i).map fun z => I z) i k) i)[k]? = some u := ⟨((prt mkI 1 (fun i => (L2 i).length) (fun i => (L2 i).map fun z => I z) i k) i)[k]'(by omega), List.getElem?_eq_getElem (by omega)⟩
              have y0 := owns_cell hrow k u0 hu0
              have fz0 := frz e2 k
              have hGl := blk_lt hG
              have hps := prt_set2 (fun i => (L2 i).length) (fun i => (L2 i).map fun z => I z) i k (by simp) hkl
              have hst := prt_step (mk := mkI) (sz := 1) (ns := (fun i => (L2 i).length)) (C := (fun i => (L2 i).map fun z => I z)) i k _ hps
              generalize hmm : (-5 - (i : Int)) = mm at *
              have q2 := owns_set hrow k (I mm)
              rw [← e1] at q2
              have q3 := hq.mark2 (Nat.zero_le _) q2 (Only.setCell wr ⟨g, k, none⟩ (I mm)) (fun k' q _ => by rw [show k' = g from q]; exact hgt)
              rw [hst] at q3
              have HN := hide q3
              clear q2 q3 hq hst hps hrow hro e1 e2 hu0 hlen
              go_wp2
              refine ⟨⟨k + 1, by omega, by go_num, unhide HN⟩, ?_⟩
              simp [Go.RowKit.intOf]; omega
            · have hkl' : ¬ (k : Int) < ((L2 i).length : Int) := by omega
              have hd' : decide (k < (L2 i).length) = false := by simp; omega
              have hke : k = (L2 i).length := by omega
              have hGl := blk_lt hG
              rw [hv] at hG
              have hpn : (prt mkI 1 (fun i => (L2 i).length) (fun i => (L2 i).map fun z => I z) i (L2 i).length) = (prt mkI 1 (fun i => (L2 i).length) (fun i => (L2 i).map fun z => I z) (i + 1) 0) := prt_next i (by simp)
              rw [hke, hpn] at hq
              have HN := hide hq
              clear hq hke hv hpn
              go_wp2
              refine ⟨⟨i + 1, by omega, by go_num, unhide HN⟩, ?_⟩
              simp [Go.RowKit.intOf]; omega
        · have hlt' : ¬ (i : Int) < (N2 : Int) := by omega
          have hd : decide (i < N2) = false := by simp; omega
          have hiN : i = N2 := by omega
          rw [hiN] at hq
          clear hiN
          have HS2 := hide hq
          clear hq
          go_wp2
          clear z0 hlt hlt' hd hZr
          go_loopw [11, 13] (fun tv i wr => ∃ (lo : Nat) (tg : Nat → Tg) (pe : Option Addr) (ce : Nat) (En : List Value) (x : Value) (ln : Nat), lo ≤ N1 ∧ i = .int .i64 lo ∧ tv = .slice pe En.length ce ∧ En.length = 20 * lo ∧ S4 w tag Z #[.slice pf1 N1 cf1, .slice pw1 N1 cw1, .slice pf2 N2 cf2, .slice pw2 N2 cw2] tg N1 vs1 (fun i => (L1 i).length) (prt mkS 1 (fun i => (L1 i).length) (fun i => (L1 i).map S) N1 0) (.slice pf1 N1 cf1) lo (.slice pe En.length ce) En x ln N2 vs2 (fun i => (L2 i).length) (prt mkI 1 (fun i => (L2 i).length) (fun i => (L2 i).map fun z => I z) N2 0) (.slice pf2 N2 cf2) 0 (.slice none 0 0) [] (.slice none 0 0) 0 wr) (fun _ i _ => N1 - (Go.RowKit.intOf i).toNat)
          case atStart => exact ⟨0, tag, none, 0, [], .slice none 0 0, 0, by omega, rfl, rfl, rfl, unhide HS2⟩
          case round =>
          clear HS2
          obtain ⟨lo, tg0, pe1, ce1, En1, x1, ln1, hlo, rfl, rfl, hEl, hq⟩ := hrel
          have z0 : wr.cell? ⟨Z, 0, none⟩ = some (.slice pf1 N1 cf1) := hq.s.cell 0
          have hZr := lt_of_row hq.s.blk
          by_cases hlt : lo < N1
          · have hlt' : (lo : Int) < (N1 : Int) := by omega
            obtain ⟨G, cG, eG, hG, hGt⟩ := hq.b1.at hlt
            cases eG
            obtain ⟨pv, cv, hv⟩ := owns_form (hq.b1.fl lo (Nat.le_refl _) hlt)
            have hsm := hq.b1.sm lo hlt
            have HG := hide (G1.start (m := lo) hq hlt (prt_done _ _ hlt))
            have hGl := blk_lt hG
            rw [hv] at hG
            rw [hv] at HG
            have HL0 := hide hEl
            clear hq hv hEl
            go_wp2
            clear hG z0
            go_loopw [11, 14, 15] (fun tv xv kv wq => ∃ (k : Nat) (tg : Nat → Tg) (pe : Option Addr) (ce : Nat) (En : List Value), k ≤ 20 ∧ kv = .int .i64 k ∧ tv = .slice pe En.length ce ∧ En.length = 20 * lo + k ∧ G1 w tag Z #[.slice (some ⟨G, 0, none⟩) N1 cf1, .slice pw1 N1 cw1, .slice pf2 N2 cf2, .slice pw2 N2 cw2] tg N1 vs1 (fun i => (L1 i).length) (prt mkS 1 (fun i => (L1 i).length) (fun i => (L1 i).map S) N1 0) (.slice (some ⟨G, 0, none⟩) N1 cf1) (lo + 1) (.slice pe En.length ce) En xv ((L1 lo).length + k) N2 vs2 (fun i => (L2 i).length) (prt mkI 1 (fun i => (L2 i).length) (fun i => (L2 i).map fun z => I z) N2 0) (.slice pf2 N2 cf2) 0 (.slice none 0 0) [] (.slice none 0 0) 0 lo lo wq) (fun _ _ kv _ => 20 - (Go.RowKit.intOf kv).toNat)
            case atStart => exact ⟨0, tg0, pe1, ce1, En1, by omega, rfl, rfl, unhide HL0, unhide HG⟩
            case round =>
              clear HG HL0
              obtain ⟨k, tg, pe, ce, En, hk, rfl, rfl, hEl, hA⟩ := hrel
              by_cases hk20 : k < 20
              · have hk20' : (k : Int) < 20 := by omega
                obtain ⟨px, cx, rfl⟩ := owns_form hA.xr
                have hdv : En.length / 20 = lo := by omega
                have hEn : En.length ≤ 1000000000 := by omega
                have HM := hide (fun W => mark_any lo W)
                have HA := hide hA
                have HL := hide hEl
                clear hA hEl
                go_wp2_with (first
                  | (at_builtin; refine push_own 33 22 _ 1 24 Tryz.underlying33 info22 rfl (by decide) rfl (.tmp 159) (.tmp 161) rfl (.slice pe En.length ce) En.length En (by rfl) wr (unhide HA).s.d1.rd [.slice px ((L1 lo).length + k) cx] rfl (by intro u hu; obtain rfl := List.mem_singleton.1 hu; rfl) (by rfl) (by omega) (by omega) ?_
                     intro p5 c5 w5 r1 r2 r3
                     have HA2 := hide ((unhide HA).view hdv (by omega) r1 r2 r3)
                     clear r1 r2 r3)
                  | (go_at_call 51; refine (unhide HM _).mono ?_; rintro e w7 ⟨rfl, hb7⟩; have HA3 := hide ((unhide HA2).below hb7); clear hb7)
                  | (at_builtin; refine wp_gr 22 9 _ 1 16 Tryz.underlying22 info9 rfl (by decide) (by decide) rfl (.tmp 163) (.tmp 166) rfl (.slice px ((L1 lo).length + k) cx) ((L1 lo).length + k) _ [S (mkv lo)] (by rfl) w7 (unhide HA3).xr rfl (by intro u hu; obtain rfl := List.mem_singleton.1 hu; rfl) (by rfl) (by omega) ?_
                     intro p8 c8 w8 hr8 hg8 ho8
                     have hA4 := (unhide HA3).below ((Below.refl w7.heap.size w7).alloc (Nat.le_refl _) (.cells [S (mkv lo)].toArray 9))
                     have HA4 := hide (hA4.grow hr8 hg8 (by rw [show (w7.alloc (.cells [S (mkv lo)].toArray 9)).heap.size = w7.heap.size + 1 by simp]; exact ho8))
                     clear hr8 hg8 ho8 hA4)
                  | fail)
                have hA4 := unhide HA4
                have hl4 : En.length + 1 = (En ++ [Value.slice px ((L1 lo).length + k) cx]).length := by simp
                rw [hl4] at hA4
                refine ⟨⟨k + 1, _, p5, c5, En ++ [.slice px ((L1 lo).length + k) cx], by omega, by go_num, by rw [← hl4], by have := unhide HL; simp; omega, hA4⟩, ?_⟩
                simp [Go.RowKit.intOf]; omega
              · have hk20' : ¬ (k : Int) < 20 := by omega
                have hke : k = 20 := by omega
                have HA := hide hA.s
                have HL := hide hEl
                obtain ⟨px, cx, rfl⟩ := owns_form hA.xr
                clear hA hEl
                go_wp2
                refine ⟨⟨lo + 1, tg, pe, ce, En, _, _, by omega, by go_num, rfl, by have := unhide HL; omega, unhide HA⟩, ?_⟩
                simp [Go.RowKit.intOf]; omega
          · have hlt' : ¬ (lo : Int) < (N1 : Int) := by omega
            have hd : decide (lo < N1) = false := by simp; omega
            have hiN : lo = N1 := by omega
            rw [hiN] at hq hEl
            clear hiN
            have HS2 := hide hq
            have HE1 := hide hEl
            clear hq hEl
            go_wp2
            clear z0 hlt hlt' hd hZr
            go_loopw [12, 16] (fun tv i wr => ∃ (lo : Nat) (tg : Nat → Tg) (pe : Option Addr) (ce : Nat) (En : List Value) (x : Value) (ln : Nat), lo ≤ N2 ∧ i = .int .i64 lo ∧ tv = .slice pe En.length ce ∧ En.length = 20 * lo ∧ S4 w tag Z #[.slice pf1 N1 cf1, .slice pw1 N1 cw1, .slice pf2 N2 cf2, .slice pw2 N2 cw2] tg N1 vs1 (fun i => (L1 i).length) (prt mkS 1 (fun i => (L1 i).length) (fun i => (L1 i).map S) N1 0) (.slice pf1 N1 cf1) N1 (.slice pe1 En1.length ce1) En1 x1 ln1 N2 vs2 (fun i => (L2 i).length) (prt mkI 1 (fun i => (L2 i).length) (fun i => (L2 i).map fun z => I z) N2 0) (.slice pf2 N2 cf2) lo (.slice pe En.length ce) En x ln wr) (fun _ i _ => N2 - (Go.RowKit.intOf i).toNat)
            case atStart => exact ⟨0, tg0, none, 0, [], .slice none 0 0, 0, by omega, rfl, rfl, rfl, unhide HS2⟩
            case round =>
            clear HS2
            obtain ⟨lo, tg2, pe2, ce2, En2, x2, ln2, hlo, rfl, rfl, hEl, hq⟩ := hrel
            have z0 : wr.cell? ⟨Z, 2, none⟩ = some (.slice pf2 N2 cf2) := hq.s.cell 2
            have hZr := lt_of_row hq.s.blk
            by_cases hlt : lo < N2
            · have hlt' : (lo : Int) < (N2 : Int) := by omega
              obtain ⟨G, cG, eG, hG, hGt⟩ := hq.b2.at hlt
              cases eG
              obtain ⟨pv, cv, hv⟩ := owns_form (hq.b2.fl lo (Nat.le_refl _) hlt)
              have hsm := hq.b2.sm lo hlt
              have HG := hide (G2.start (m := lo) hq hlt (prt_done _ _ hlt))
              have hGl := blk_lt hG
              rw [hv] at hG
              rw [hv] at HG
              have HL0 := hide hEl
              clear hq hv hEl
              go_wp2
              clear hG z0
              go_loopw [12, 17, 18] (fun tv xv kv wq => ∃ (k : Nat) (tg : Nat → Tg) (pe : Option Addr) (ce : Nat) (En : List Value), k ≤ 20 ∧ kv = .int .i64 k ∧ tv = .slice pe En.length ce ∧ En.length = 20 * lo + k ∧ G2 w tag Z #[.slice pf1 N1 cf1, .slice pw1 N1 cw1, .slice (some ⟨G, 0, none⟩) N2 cf2, .slice pw2 N2 cw2] tg N1 vs1 (fun i => (L1 i).length) (prt mkS 1 (fun i => (L1 i).length) (fun i => (L1 i).map S) N1 0) (.slice pf1 N1 cf1) N1 (.slice pe1 En1.length ce1) En1 x1 ln1 N2 vs2 (fun i => (L2 i).length) (prt mkI 1 (fun i => (L2 i).length) (fun i => (L2 i).map fun z => I z) N2 0) (.slice (some ⟨G, 0, none⟩) N2 cf2) (lo + 1) (.slice pe En.length ce) En xv ((L2 lo).length + k) lo lo wq) (fun _ _ kv _ => 20 - (Go.RowKit.intOf kv).toNat)
              case atStart => exact ⟨0, tg2, pe2, ce2, En2, by omega, rfl, rfl, unhide HL0, unhide HG⟩
              case round =>
                clear HG HL0
                obtain ⟨k, tg, pe, ce, En, hk, rfl, rfl, hEl, hA⟩ := hrel
                by_cases hk20 : k < 20
                · have hk20' : (k : Int) < 20 := by omega
                  obtain ⟨px, cx, rfl⟩ := owns_form hA.xr
                  have hdv : En.length / 20 = lo := by omega
                  have hEn : En.length ≤ 1000000000 := by omega
                  have HA := hide hA
                  have HL := hide hEl
                  clear hA hEl
                  go_wp2_with (first
                    | (at_builtin; refine push_own 34 23 _ 1 24 Tryz.underlying34 info23 rfl (by decide) rfl (.tmp 188) (.tmp 190) rfl (.slice pe En.length ce) En.length En (by rfl) wr (unhide HA).s.d2.rd [.slice px ((L2 lo).length + k) cx] rfl (by intro u hu; obtain rfl := List.mem_singleton.1 hu; rfl) (by rfl) (by omega) (by omega) ?_
                       intro p5 c5 w5 r1 r2 r3
                       have HA2 := hide ((unhide HA).view hdv (by omega) r1 r2 r3)
                       clear r1 r2 r3)
                    | (at_builtin; refine wp_gr 23 3 _ 1 8 Tryz.underlying23 info3 rfl (by decide) (by decide) rfl (.tmp 192) (.tmp 195) rfl (.slice px ((L2 lo).length + k) cx) ((L2 lo).length + k) _ [I (-5 - (lo : Int))] (by rfl) w5 (unhide HA2).xr rfl (by intro u hu; obtain rfl := List.mem_singleton.1 hu; rfl) (by rfl) (by omega) ?_
                       intro p8 c8 w8 hr8 hg8 ho8
                       have hA4 := (unhide HA2).below ((Below.refl _ _).alloc (Nat.le_refl _) (.cells [I (-5 - (lo : Int))].toArray 3))
                       have HA4 := hide (hA4.grow hr8 hg8 (by simpa using ho8))
                       clear hr8 hg8 ho8 hA4)
                    | fail)
                  have hA4 := unhide HA4
                  have hl4 : En.length + 1 = (En ++ [Value.slice px ((L2 lo).length + k) cx]).length := by simp
                  rw [hl4] at hA4
                  refine ⟨⟨k + 1, _, p5, c5, En ++ [.slice px ((L2 lo).length + k) cx], by omega, by go_num, by rw [← hl4], by have := unhide HL; simp; omega, hA4⟩, ?_⟩
                  simp [Go.RowKit.intOf]; omega
                · have hk20' : ¬ (k : Int) < 20 := by omega
                  have hke : k = 20 := by omega
                  have HA := hide hA.s
                  have HL := hide hEl
                  obtain ⟨px, cx, rfl⟩ := owns_form hA.xr
                  clear hA hEl
                  go_wp2
                  refine ⟨⟨lo + 1, tg, pe, ce, En, _, _, by omega, by go_num, rfl, by have := unhide HL; omega, unhide HA⟩, ?_⟩
                  simp [Go.RowKit.intOf]; omega
            · have hlt' : ¬ (lo : Int) < (N2 : Int) := by omega
              have hd : decide (lo < N2) = false := by simp; omega
              have hiN : lo = N2 := by omega
              rw [hiN] at hq hEl
              clear hiN
              have HE2 := hide hEl
              have hEb1 : En1.length ≤ 1000000000 := by have := unhide HE1; omega
              have hEb2 : En2.length ≤ 1000000000 := by omega
              have HF := hide hq
              clear hq hEl
              generalize hW9 : wr = W9 at *
              go_wp2
              clear z0 hlt hlt' hd hZr
              go_loopw [19] (fun x wr => ∃ r : Nat, r ≤ En1.length ∧ x = .int .i64 r ∧ Below W9.heap.size W9 wr) (fun x _ => En1.length - (Go.RowKit.intOf x).toNat)
              case atStart => exact ⟨0, by omega, rfl, Below.refl _ _⟩
              case round =>
              obtain ⟨r, hr, rfl, hb⟩ := hrel
              by_cases hlt : r < En1.length
              · have hlt' : (r : Int) < (En1.length : Int) := by omega
                obtain ⟨v, hv⟩ : ∃ v, En1[r]? = some v := ⟨En1[r], List.getElem?_eq_getElem hlt⟩
                obtain ⟨p, n, c, ev, hn, hvv⟩ := (unhide HF).d1.dn r v hv
                obtain ⟨G, cG, eG, hG⟩ := (unhide HF).d1.at hv
                cases eG
                subst ev
                have hGl := blk_lt hG
                have hGw : wr.cell? ⟨G, r, none⟩ = some (.slice p n c) := (hb.cell (p := ⟨G, r, none⟩) hGl).trans hG
                have hGlr := blk_lt hGw
                have HB := hide hb
                have HV := hide hvv
                have HGc := hide hG
                clear hb hv hvv hG
                go_wp2
                clear hGw
                go_loopw [20] (fun x wq => ∃ k : Nat, k ≤ n ∧ x = .int .i64 k ∧ Below W9.heap.size W9 wq) (fun x _ => n - (Go.RowKit.intOf x).toNat)
                case atStart => exact ⟨0, by omega, rfl, unhide HB⟩
                case round =>
                  clear HB
                  obtain ⟨k, hk, rfl, hb⟩ := hrel
                  have hG : wr.cell? ⟨G, r, none⟩ = some (.slice p n c) := (hb.cell (p := ⟨G, r, none⟩) hGl).trans (unhide HGc)
                  have hGlr := blk_lt hG
                  by_cases hkl : k < n
                  · have hkl' : (k : Int) < (n : Int) := by omega
                    obtain ⟨g, cur, e1, -, e3, -, e5⟩ := unhide HV (by omega)
                    subst e1
                    have hc := e5 k hkl 0 (S (mkv (r / 20))) (by decide) rfl
                    rw [Nat.mul_one, Nat.add_zero] at hc
                    have hgl := lt_of_row e3
                    have HB := hide hb
                    have HB2 := hide (show ∀ W : World, Below wr.heap.size wr W → Below W9.heap.size W9 W from fun _ k => hb.trans (k.mono hb.size))
                    have HM := hide (fun W => mark_any (r / 20) W)
                    generalize mkv (r / 20) = mv at *
                    clear hb e5
                    go_wp2_with fail
                    refine rsk G En1.length ce1 g n c r k mv rfl rfl rfl _ _ (show 223 ≤ 249 from by decide) rfl rfl rfl (fun _ W => Below wr.heap.size wr W) ?h0 ?hp hlt hkl (by have := unhide HE1; omega) ?l3 ?l6 ?c9 ?_
                    case h0 => exact (Below.refl _ _).drew
                    case hp => exact fun _ _ _ _ h => h
                    case l3 =>
                      intro _ W h
                      rw [Nat.zero_add]
                      exact (World.cell?_of_block (h.block G hGlr)).trans hG
                    case l6 =>
                      intro _ W h
                      rw [Nat.zero_add]
                      exact (World.cell?_of_block ((unhide HB2 _ h).block g hgl)).trans hc
                    case c9 =>
                      intro _ W h _
                      refine (unhide HM W).mono ?_
                      rintro e w2 ⟨rfl, hb⟩
                      exact ⟨rfl, h.trans (hb.mono h.size)⟩
                    intro L W _ hW
                    have HN := hide (unhide HB2 _ hW)
                    clear hW hG hc e3
                    simp only [Act.put, List.setIfInBounds_toArray, List.set_cons_succ, List.set_cons_zero]
                    go_wp2
                    refine ⟨⟨k + 1, by omega, by go_num, unhide HN⟩, ?_⟩
                    simp [Go.RowKit.intOf]; omega
                  · have hkl' : ¬ (k : Int) < (n : Int) := by omega
                    have hd' : decide (k < n) = false := by simp; omega
                    have HB := hide hb
                    clear hb
                    go_wp2
                    refine ⟨⟨r + 1, by omega, by go_num, unhide HB⟩, ?_⟩
                    simp [Go.RowKit.intOf]; omega
              · have hlt' : ¬ (r : Int) < (En1.length : Int) := by omega
                have hd : decide (r < En1.length) = false := by simp; omega
                have HB1 := hide hb
                clear hb
                go_wp2
                clear hlt hlt' hd hr
                go_loopw [21] (fun x wr => ∃ r : Nat, r ≤ En2.length ∧ x = .int .i64 r ∧ Below W9.heap.size W9 wr) (fun x _ => En2.length - (Go.RowKit.intOf x).toNat)
                case atStart => exact ⟨0, by omega, rfl, unhide HB1⟩
                case round =>
                clear HB1
                obtain ⟨r, hr, rfl, hb⟩ := hrel
                by_cases hlt : r < En2.length
                · have hlt' : (r : Int) < (En2.length : Int) := by omega
                  obtain ⟨v, hv⟩ : ∃ v, En2[r]? = some v := ⟨En2[r], List.getElem?_eq_getElem hlt⟩
                  obtain ⟨p, n, c, ev, hn, hvv⟩ := (unhide HF).d2.dn r v hv
                  obtain ⟨G, cG, eG, hG⟩ := (unhide HF).d2.at hv
                  cases eG
                  subst ev
                  have hGl := blk_lt hG
                  have hGw : wr.cell? ⟨G, r, none⟩ = some (.slice p n c) := (hb.cell (p := ⟨G, r, none⟩) hGl).trans hG
                  have hGlr := blk_lt hGw
                  have HB := hide hb
                  have HV := hide hvv
                  have HGc := hide hG
                  clear hb hv hvv hG
                  go_wp2
                  clear hGw
                  go_loopw [22] (fun x wq => ∃ k : Nat, k ≤ n ∧ x = .int .i64 k ∧ Below W9.heap.size W9 wq) (fun x _ => n - (Go.RowKit.intOf x).toNat)
                  case atStart => exact ⟨0, by omega, rfl, unhide HB⟩
                  case round =>
                    clear HB
                    obtain ⟨k, hk, rfl, hb⟩ := hrel
                    have hG : wr.cell? ⟨G, r, none⟩ = some (.slice p n c) := (hb.cell (p := ⟨G, r, none⟩) hGl).trans (unhide HGc)
                    have hGlr := blk_lt hG
                    by_cases hkl : k < n
                    · have hkl' : (k : Int) < (n : Int) := by omega
                      obtain ⟨g, cur, e1, -, e3, -, e5⟩ := unhide HV (by omega)
                      subst e1
                      have hc := e5 k hkl 0 (I (-5 - ((r / 20 : Nat) : Int))) (by decide) rfl
                      rw [Nat.mul_one, Nat.add_zero] at hc
                      have hcr : wr.cell? ⟨g, k, none⟩ = some (I (-5 - ((r / 20 : Nat) : Int))) := (hb.cell (p := ⟨g, k, none⟩) (lt_of_row e3)).trans hc
                      have hgl := blk_lt hcr
                      have hr12 : ((r : Nat) : Int) / 20 = ((r / 20 : Nat) : Int) := by omega
                      have hrb : (r / 20 : Nat) ≤ 1000000000 := by have := unhide HE2; omega
                      have HB := hide hb
                      clear hb e5 hc e3
                      generalize r / 20 = r12 at *
                      go_wp2
                      refine ⟨⟨k + 1, by omega, by go_num, unhide HB⟩, ?_⟩
                      simp [Go.RowKit.intOf]; omega
                    · have hkl' : ¬ (k : Int) < (n : Int) := by omega
                      have hd' : decide (k < n) = false := by simp; omega
                      have HB := hide hb
                      clear hb
                      go_wp2
                      refine ⟨⟨r + 1, by omega, by go_num, unhide HB⟩, ?_⟩
                      simp [Go.RowKit.intOf]; omega
                · have hlt' : ¬ (r : Int) < (En2.length : Int) := by omega
                  have hd : decide (r < En2.length) = false := by simp; omega
                  have HB1 := hide hb
                  clear hb
                  go_wp2
                  go_ret
                  exact ⟨rfl, ((unhide HF).below (unhide HB1)).s.onl⟩
end Go.Proofs.YtllialbdofklgaaGreatDoor
