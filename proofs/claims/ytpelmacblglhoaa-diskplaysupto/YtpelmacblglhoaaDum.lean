import Derived.Test.YtpelmacblglhoaaZzbj
import Derived.Test.YtpelmacblglhoaaRgst
import Derived.Test.YtpelmacblglhoaaDun
namespace Go.Proofs.Ytpelmacblglhoaa
open Go.RowKit
set_option maxHeartbeats 40000000
set_option maxRecDepth 20000
theorem SS.cell {w0 : World} {tag0 tag : Nat → Tg} {Z : Nat} {cs : Array Value} {w : World} (h : SS w0 tag0 Z cs tag w) (j : Nat) : w.cell? ⟨Z, j, none⟩ = cs[j]? := cell_of_row w Z j _ 30 (0, 0) h.blk
/-- What holds of the world while a mark is laid. -/
def WdK (wr : World) (g k : Nat) (m : Bs) (L : Nat → Bool) (W : World) : Prop :=
  (L 13 = false ∧ Below wr.heap.size wr W) ∨ (L 13 = true ∧ L 11 = true ∧ ∃ W0, Below wr.heap.size wr W0 ∧ W = W0.setCell ⟨g, k, none⟩ (S m))
theorem upd_ne {L : Nat → Bool} {i j : Nat} (h : j ≠ i) : upd L i j = L j := by simp [upd, h]
theorem upd_eq {L : Nat → Bool} {i : Nat} : upd L i i = true := by simp [upd]
theorem upd_of {L : Nat → Bool} {i j : Nat} (h : L j = true) : upd L i j = true := by by_cases e : j = i <;> simp [upd, e, h]
theorem WdK.pure {wr : World} {g k : Nat} {m : Bs} {L : Nat → Bool} {W : World} (h : WdK wr g k m L W) (x : Nat) (h8 : x ≠ 13) : WdK wr g k m (upd L x) W := by
  rcases h with ⟨h1, h2⟩ | ⟨h1, h2, h3⟩
  · exact .inl ⟨(upd_ne (Ne.symm h8)).trans h1, h2⟩
  · exact .inr ⟨upd_of h1, upd_of h2, h3⟩
theorem WdK.block {wr : World} {g k : Nat} {m : Bs} {L : Nat → Bool} {W : World} (h : WdK wr g k m L W) (G : Nat) (hG : G < wr.heap.size) (hne : G ≠ g) : W.heap[G]? = wr.heap[G]? := by
  rcases h with ⟨h1, h2⟩ | ⟨h1, h2, W0, h3, rfl⟩
  · exact h2.block G hG
  · rw [heap_setCell_other _ _ _ _ hne]
    exact h3.block G hG
theorem still_any (w : World) (tag : Nat → Tg) (Z N1 N2 f1 f2 : Nat) (vs1 vs2 ws1 ws2 : Nat → Value) (L1 : Nat → List Bs) (L2 : Nat → List Wr) (pf1 pf2 pw1 pw2 pd1 pd2 : Option Addr) (cf1 cf2 cw1 cw2 cd1 cd2 : Nat) (vl vh : Value) (Dn1 Dn2 : List Value)
    (h : S4 w tag Z #[vl, .slice pf1 N1 cf1, .slice pw1 N1 cw1, .slice pf2 N2 cf2, .slice pw2 N2 cw2, (.slice pd1 Dn1.length cd1), (.slice pd2 Dn2.length cd2), vh] tag N1 vs1 (fun i => (L1 i).length) (fun i => (L1 i).map S) (.slice pf1 N1 cf1) 0 (.slice pd1 Dn1.length cd1) Dn1 (.slice none 0 0) 0 N2 vs2 (fun i => (L2 i).length) (fun i => cellsW (L2 i)) (.slice pf2 N2 cf2) 0 (.slice pd2 Dn2.length cd2) Dn2 (.slice none 0 0) 0 w) (hw1 : LW 0 28 tag N1 ws1 (fun i => (L1 i).length) (fun i => (L1 i).map S) (.slice pw1 N1 cw1) w) (hw2 : LW 1 43 tag N2 ws2 (fun i => (L2 i).length) (fun i => cellsW (L2 i)) (.slice pw2 N2 cw2) w)
    (hf1 : Dn1.length = 12 * f1) (hf2 : Dn2.length = 12 * f2) (hb1 : f1 + N1 ≤ 10000000) (hb2 : f2 + N2 ≤ 10000000) :
    Calls Try.prog 9 #[ptr Z] w fun e w' => e = .returned (.bool true) ∧ ∃ tag' pe1 ce1 pe2 ce2 En1 En2, SS w tag Z #[vl, .slice none 0 0, .slice none 0 0, .slice none 0 0, .slice none 0 0, (.slice pe1 En1.length ce1), (.slice pe2 En2.length ce2), vh] tag' w' ∧ LD 0 9 1 28 mkS tag' (Pv 0 N1) (.slice pe1 En1.length ce1) En1 (.slice none 0 0) 0 w' ∧ LD 1 69 2 43 mkW tag' (Pv 1 N2) (.slice pe2 En2.length ce2) En2 (.slice none 0 0) 0 w' ∧ En1.length = 12 * (f1 + N1) ∧ En2.length = 12 * (f2 + N2) := by
  have HS := hide h
  have HW1 := hide hw1
  have HW2 := hide hw2
  have hZ := lt_of_row h.s.blk
  have hd1 : ((Dn1.length : Nat) : Int) / 12 = (f1 : Int) := by omega
  have hd2 : ((Dn2.length : Nat) : Int) / 12 = (f2 : Int) := by omega
  have HD := hide (And.intro hf1 hf2)
  have HE := hide (And.intro hd1 hd2)
  clear h hw1 hw2 hf1 hf2 hd1 hd2
  go_enter Try.func9, Try.ntmps9
  go_wp2
  go_loopw [3] (fun i wr => ∃ k : Nat, k ≤ N1 ∧ i = .int .i64 k ∧ Below w.heap.size w wr) (fun i _ => N1 - (Go.RowKit.intOf i).toNat)
  case atStart => exact ⟨0, by omega, rfl, Below.refl _ _⟩
  case round =>
  obtain ⟨r, hr, rfl, hb⟩ := hrel
  have z0 : wr.cell? ⟨Z, 1, none⟩ = some (.slice pf1 N1 cf1) := (hb.cell (p := ⟨Z, 1, none⟩) hZ).trans ((unhide HS).s.cell 1)
  have z1 : wr.cell? ⟨Z, 2, none⟩ = some (.slice pw1 N1 cw1) := (hb.cell (p := ⟨Z, 2, none⟩) hZ).trans ((unhide HS).s.cell 2)
  have hZr : Z < wr.heap.size := Nat.lt_of_lt_of_le hZ hb.size
  by_cases hlt : r < N1
  · have hlt' : (r : Int) < (N1 : Int) := by omega
    obtain ⟨G, cG, eG, hG, -⟩ := (unhide HS).b1.at hlt
    cases eG
    obtain ⟨H, cH, eH, hH⟩ := (unhide HW1).at hlt
    cases eH
    obtain ⟨p, c, e1, e2, -⟩ := Sts.of ((unhide HS).b1.fl r (Nat.zero_le _) hlt)
    obtain ⟨p2, c2, e3, e4⟩ := (unhide HW1).sts hlt
    have hsm := (unhide HS).b1.sm r hlt
    have HB := hide hb
    have HB2 := hide (show ∀ W : World, Below wr.heap.size wr W → Below w.heap.size w W from fun _ k => hb.trans (k.mono hb.size))
    have hGl := blk_lt hG
    have hHl := blk_lt hH
    rw [e1] at hG
    rw [e3] at hH
    clear hb
    go_wp2_with fail
    refine rsa Z G N1 cf1 H N1 cw1 r (.slice p (L1 r).length c) (.slice p2 (L1 r).length c2) rfl rfl rfl _ _ (show 47 ≤ 314 from by decide) rfl rfl (fun _ W => Below wr.heap.size wr W) ?h0 ?hp hlt hlt ?l3 ?l6 ?l10 ?l13 ?c14 ?_
    case h0 => exact (Below.refl _ _).drew
    case hp => exact fun _ _ _ _ h => h
    case l3 => exact fun _ W h => (World.cell?_of_block (h.block Z hZr)).trans z0
    case l6 =>
      intro _ W h
      rw [Nat.zero_add]
      exact (World.cell?_of_block ((unhide HB2 _ h).block G hGl)).trans hG
    case l10 => exact fun _ W h => (World.cell?_of_block (h.block Z hZr)).trans z1
    case l13 =>
      intro _ W h
      rw [Nat.zero_add]
      exact (World.cell?_of_block ((unhide HB2 _ h).block H hHl)).trans hH
    case c14 =>
      intro _ W h _
      refine (same_any p p2 (L1 r).length c c2 (L1 r) W (e2.below (unhide HB2 _ h)) (e4.below (unhide HB2 _ h)) (by omega)).mono ?_
      rintro e w2 ⟨rfl, hb⟩
      exact ⟨rfl, h.trans (hb.mono h.size)⟩
    intro L W _ hW
    have HN := hide (unhide HB2 _ hW)
    clear hW z0 z1 e1 e2 e3 e4 hG hH
    simp only [Act.put, List.setIfInBounds_toArray, List.set_cons_succ, List.set_cons_zero]
    go_wp2
    refine ⟨⟨r + 1, by omega, by go_num, unhide HN⟩, ?_⟩
    simp [Go.RowKit.intOf]; omega
  · have hlt' : ¬ (r : Int) < (N1 : Int) := by omega
    have hd : decide (r < N1) = false := by simp; omega
    clear z1
    have HB1 := hide hb
    clear hb
    go_wp2
    clear z0 hZr hlt hlt' hd
    go_loopw [5] (fun i wr => ∃ k : Nat, k ≤ N2 ∧ i = .int .i64 k ∧ Below w.heap.size w wr) (fun i _ => N2 - (Go.RowKit.intOf i).toNat)
    case atStart => exact ⟨0, by omega, rfl, unhide HB1⟩
    case round =>
    obtain ⟨r, hr, rfl, hb⟩ := hrel
    have z0 : wr.cell? ⟨Z, 3, none⟩ = some (.slice pf2 N2 cf2) := (hb.cell (p := ⟨Z, 3, none⟩) hZ).trans ((unhide HS).s.cell 3)
    have z1 : wr.cell? ⟨Z, 4, none⟩ = some (.slice pw2 N2 cw2) := (hb.cell (p := ⟨Z, 4, none⟩) hZ).trans ((unhide HS).s.cell 4)
    have hZr : Z < wr.heap.size := Nat.lt_of_lt_of_le hZ hb.size
    by_cases hlt : r < N2
    · have hlt' : (r : Int) < (N2 : Int) := by omega
      obtain ⟨G, cG, eG, hG, -⟩ := (unhide HS).b2.at hlt
      cases eG
      obtain ⟨H, cH, eH, hH⟩ := (unhide HW2).at hlt
      cases eH
      obtain ⟨p, c, e1, e2⟩ := Wls.of ((unhide HS).b2.fl r (Nat.zero_le _) hlt)
      obtain ⟨p2, c2, e3, e4⟩ := (unhide HW2).wls hlt
      have hsm := (unhide HS).b2.sm r hlt
      have HB := hide hb
      have HB2 := hide (show ∀ W : World, Below wr.heap.size wr W → Below w.heap.size w W from fun _ k => hb.trans (k.mono hb.size))
      have hGl := blk_lt hG
      have hHl := blk_lt hH
      rw [e1] at hG
      rw [e3] at hH
      clear hb
      go_wp2_with fail
      refine rsw Z G N2 cf2 H N2 cw2 r (.slice p (L2 r).length c) (.slice p2 (L2 r).length c2) rfl rfl rfl _ _ (show 73 ≤ 314 from by decide) rfl rfl (fun _ W => Below wr.heap.size wr W) ?h0 ?hp hlt hlt ?l3 ?l6 ?l10 ?l13 ?c14 ?_
      case h0 => exact (Below.refl _ _).drew
      case hp => exact fun _ _ _ _ h => h
      case l3 => exact fun _ W h => (World.cell?_of_block (h.block Z hZr)).trans z0
      case l6 =>
        intro _ W h
        rw [Nat.zero_add]
        exact (World.cell?_of_block ((unhide HB2 _ h).block G hGl)).trans hG
      case l10 => exact fun _ W h => (World.cell?_of_block (h.block Z hZr)).trans z1
      case l13 =>
        intro _ W h
        rw [Nat.zero_add]
        exact (World.cell?_of_block ((unhide HB2 _ h).block H hHl)).trans hH
      case c14 =>
        intro _ W h _
        refine (sameWrites_any p p2 (L2 r).length c c2 (L2 r) W (e2.below (unhide HB2 _ h)) (e4.below (unhide HB2 _ h)) (by omega)).mono ?_
        rintro e w2 ⟨rfl, hb⟩
        exact ⟨rfl, h.trans (hb.mono h.size)⟩
      intro L W _ hW
      have HN := hide (unhide HB2 _ hW)
      clear hW z0 z1 e1 e2 e3 e4 hG hH
      simp only [Act.put, List.setIfInBounds_toArray, List.set_cons_succ, List.set_cons_zero]
      go_wp2
      refine ⟨⟨r + 1, by omega, by go_num, unhide HN⟩, ?_⟩
      simp [Go.RowKit.intOf]; omega
    · have hlt' : ¬ (r : Int) < (N2 : Int) := by omega
      have hd : decide (r < N2) = false := by simp; omega
      clear z1
      have hq1 := (unhide HS).below hb
      have z5 : wr.cell? ⟨Z, 5, none⟩ = some (.slice pd1 Dn1.length cd1) := hq1.s.cell 5
      have z1 : wr.cell? ⟨Z, 1, none⟩ = some (.slice pf1 N1 cf1) := hq1.s.cell 1
      have HS2 := hide hq1
      have hde := (unhide HE).1
      clear hb hq1 HS HW1 HW2
      go_wp2
      clear hde z5 z1 z0 hlt hlt' hd hZr
      go_loopw [8] (fun x wr => ∃ i : Nat, i ≤ N1 ∧ x = .int .i64 i ∧ S4 w tag Z #[vl, .slice pf1 N1 cf1, .slice pw1 N1 cw1, .slice pf2 N2 cf2, .slice pw2 N2 cw2, (.slice pd1 Dn1.length cd1), (.slice pd2 Dn2.length cd2), vh] tag N1 vs1 (fun i => (L1 i).length) (prt mkS 1 f1 (fun i => (L1 i).length) (fun i => (L1 i).map S) i 0) (.slice pf1 N1 cf1) 0 (.slice pd1 Dn1.length cd1) Dn1 (.slice none 0 0) 0 N2 vs2 (fun i => (L2 i).length) (fun i => cellsW (L2 i)) (.slice pf2 N2 cf2) 0 (.slice pd2 Dn2.length cd2) Dn2 (.slice none 0 0) 0 wr) (fun x _ => N1 - (Go.RowKit.intOf x).toNat)
      case atStart => exact ⟨0, by omega, rfl, by rw [prt_zero]; exact unhide HS2⟩
      case round =>
      clear HS2
      obtain ⟨i, hi, rfl, hq⟩ := hrel
      have z0 : wr.cell? ⟨Z, 1, none⟩ = some (.slice pf1 N1 cf1) := hq.s.cell 1
      have hZr := lt_of_row hq.s.blk
      by_cases hlt : i < N1
      · have hlt' : (i : Int) < (N1 : Int) := by omega
        have hr0 := hide hq
        clear hq
        go_wp2
        clear z0
        go_loopw [9] (fun x wq => ∃ k : Nat, k ≤ (L1 i).length ∧ x = .int .i64 k ∧ S4 w tag Z #[vl, .slice pf1 N1 cf1, .slice pw1 N1 cw1, .slice pf2 N2 cf2, .slice pw2 N2 cw2, (.slice pd1 Dn1.length cd1), (.slice pd2 Dn2.length cd2), vh] tag N1 vs1 (fun i => (L1 i).length) (prt mkS 1 f1 (fun i => (L1 i).length) (fun i => (L1 i).map S) i k) (.slice pf1 N1 cf1) 0 (.slice pd1 Dn1.length cd1) Dn1 (.slice none 0 0) 0 N2 vs2 (fun i => (L2 i).length) (fun i => cellsW (L2 i)) (.slice pf2 N2 cf2) 0 (.slice pd2 Dn2.length cd2) Dn2 (.slice none 0 0) 0 wq) (fun x _ => (L1 i).length - (Go.RowKit.intOf x).toNat)
        case atStart => exact ⟨0, by omega, rfl, unhide hr0⟩
        case round =>
          clear hr0
          obtain ⟨k, hk, rfl, hq⟩ := hrel
          have z0 : wr.cell? ⟨Z, 1, none⟩ = some (.slice pf1 N1 cf1) := hq.s.cell 1
          have hZr2 := lt_of_row hq.s.blk
          obtain ⟨G, cG, eG, hG, hGt⟩ := hq.b1.at hlt
          cases eG
          obtain ⟨pv, cv, hv⟩ := owns_form (hq.b1.fl i (Nat.zero_le _) hlt)
          have hsm := hq.b1.sm i hlt
          by_cases hkl : k < (L1 i).length
          · have hkl' : (k : Int) < ((L1 i).length : Int) := by omega
            obtain ⟨g, cg, cur, e1, e2, -⟩ := owns_at (hq.b1.fl i (Nat.zero_le _) hlt) (show 0 < (L1 i).length by omega)
            have hgt := hq.b1.ft i (Nat.zero_le _) hlt g (by rw [e1]; rfl)
            have hgZ : Z ≠ g := fun e => by rw [← e, hq.s.tz] at hgt; exact absurd hgt (tg_ne (by decide))
            have hgG : G ≠ g := fun e => by rw [← e, hGt] at hgt; exact absurd hgt (tg_ne (by decide))
            have hgl := lt_of_row e2
            have hrow := hq.b1.fl i (Nat.zero_le _) hlt
            rw [e1] at hrow hG
            have hcc : ∃ u, ((prt mkS 1 f1 (fun i => (L1 i).length) (fun i => (L1 i).map S) i k) i)[k]? = some u := ⟨((prt mkS 1 f1 (fun i => (L1 i).length) (fun i => (L1 i).map S) i k) i)[k]'(by have := hrow.1; omega), List.getElem?_eq_getElem (by have := hrow.1; omega)⟩
            obtain ⟨u0, hu0⟩ := hcc
            have hu1 := owns_cell hrow k u0 hu0
            have hGl := blk_lt hG
            have HQ := hide hq
            have hZr := lt_of_row hq.s.blk
            have HM := hide (fun W => mark_any (f1 + i) W)
            rw [Int.natCast_add] at HM
            have HSt := hide (prt_step (mk := mkS) (sz := 1) (f := f1) (ns := (fun i => (L1 i).length)) (C := (fun i => (L1 i).map S)) i k _ (prt_set1 f1 (fun i => (L1 i).length) (fun i => (L1 i).map S) i k (by simp) hkl))
            clear hq
            generalize mkv (f1 + i) = mv at *
            go_wp2_with fail
            refine rsm Z G N1 cf1 g (L1 i).length cg i k f1 mv rfl rfl rfl _ _ (show 115 ≤ 314 from by decide) rfl rfl rfl rfl (WdK wr g k mv) ?h0 ?hp hlt hkl (by omega) ?l3 ?l6 ?c11 ?n13 ?_
            case h0 => exact .inl ⟨rfl, (Below.refl _ _).drew⟩
            case hp => exact fun x hx L W hW => hW.pure x (by intro e; subst e; simp at hx)
            case l3 =>
              intro L W hW
              exact (World.cell?_of_block (hW.block Z hZr hgZ)).trans z0
            case l6 =>
              intro L W hW
              rw [Nat.zero_add]
              exact (World.cell?_of_block (hW.block G hGl hgG)).trans hG
            case c11 =>
              intro L W hW h6
              refine (unhide HM W).mono ?_
              rintro e w2 ⟨rfl, hb⟩
              refine ⟨rfl, ?_⟩
              rcases hW with ⟨h1, h2⟩ | ⟨_, h2, _⟩
              · exact .inl ⟨(upd_ne (by decide)).trans h1, h2.trans (hb.mono h2.size)⟩
              · rw [h6] at h2; cases h2
            case n13 =>
              intro L W hW h8 h6 _
              rw [Nat.zero_add]
              rcases hW with ⟨h1, h2⟩ | ⟨h1, _⟩
              · have q := h2.block g hgl
                exact ⟨.inr ⟨upd_eq, upd_of h6, W, h2, rfl⟩, ⟨u0, (World.cell?_of_block q).trans hu1⟩, frz (q.trans e2) k⟩
              · rw [h8] at h1; cases h1
            intro L W hall hW
            have hW8 := hall 13 (by decide)
            obtain ⟨W0, hb0, hWe⟩ : ∃ W0, Below wr.heap.size wr W0 ∧ W = W0.setCell ⟨g, k, none⟩ (S mv) := by
              rcases hW with ⟨h1, _⟩ | ⟨_, _, h3⟩
              · rw [hW8] at h1; cases h1
              · exact h3
            have q1 := (unhide HQ).below hb0
            have q2 := owns_set (owns_below hrow hb0) k (S mv)
            rw [← e1, ← hWe] at q2
            have q3 := q1.mark1 (Nat.zero_le _) q2 (hWe ▸ Only.setCell W0 ⟨g, k, none⟩ (S mv)) (fun k' q _ => by rw [show k' = g from q]; exact hgt)
            rw [unhide HSt] at q3
            have HN := hide q3
            clear q1 q2 q3 hW hWe hb0 hall hW8 z0 hG hrow e1 e2 hu0 hu1 HQ HSt HM
            simp only [Act.put, List.setIfInBounds_toArray, List.set_cons_succ, List.set_cons_zero]
            go_wp2
            refine ⟨⟨k + 1, by omega, by go_num, unhide HN⟩, ?_⟩
            simp [Go.RowKit.intOf]; omega
          · have hkl' : ¬ (k : Int) < ((L1 i).length : Int) := by omega
            have hd' : decide (k < (L1 i).length) = false := by simp; omega
            have hke : k = (L1 i).length := by omega
            have hGl := blk_lt hG
            rw [hv] at hG
            have hpn : (prt mkS 1 f1 (fun i => (L1 i).length) (fun i => (L1 i).map S) i (L1 i).length) = (prt mkS 1 f1 (fun i => (L1 i).length) (fun i => (L1 i).map S) (i + 1) 0) := prt_next i (by simp)
            rw [hke, hpn] at hq
            have HN := hide hq
            clear hq hke hv hpn
            go_wp2
            refine ⟨⟨i + 1, by omega, by go_num, unhide HN⟩, ?_⟩
            simp [Go.RowKit.intOf]; omega
      · have hlt' : ¬ (i : Int) < (N1 : Int) := by omega
        have hd : decide (i < N1) = false := by simp; omega
        have hiN : i = N1 := by omega
        rw [hiN] at hq
        clear hiN
        have z6 : wr.cell? ⟨Z, 6, none⟩ = some (.slice pd2 Dn2.length cd2) := hq.s.cell 6
        have HS2 := hide hq
        have hde := (unhide HE).2
        clear hq
        go_wp2
        clear hde z6 z0 hlt hlt' hd hZr
        go_loopw [11] (fun x wr => ∃ i : Nat, i ≤ N2 ∧ x = .int .i64 i ∧ S4 w tag Z #[vl, .slice pf1 N1 cf1, .slice pw1 N1 cw1, .slice pf2 N2 cf2, .slice pw2 N2 cw2, (.slice pd1 Dn1.length cd1), (.slice pd2 Dn2.length cd2), vh] tag N1 vs1 (fun i => (L1 i).length) (prt mkS 1 f1 (fun i => (L1 i).length) (fun i => (L1 i).map S) N1 0) (.slice pf1 N1 cf1) 0 (.slice pd1 Dn1.length cd1) Dn1 (.slice none 0 0) 0 N2 vs2 (fun i => (L2 i).length) (prt mkW 2 f2 (fun i => (L2 i).length) (fun i => cellsW (L2 i)) i 0) (.slice pf2 N2 cf2) 0 (.slice pd2 Dn2.length cd2) Dn2 (.slice none 0 0) 0 wr) (fun x _ => N2 - (Go.RowKit.intOf x).toNat)
        case atStart => exact ⟨0, by omega, rfl, by rw [prt_zero]; exact unhide HS2⟩
        case round =>
        clear HS2
        obtain ⟨i, hi, rfl, hq⟩ := hrel
        have z0 : wr.cell? ⟨Z, 3, none⟩ = some (.slice pf2 N2 cf2) := hq.s.cell 3
        have hZr := lt_of_row hq.s.blk
        by_cases hlt : i < N2
        · have hlt' : (i : Int) < (N2 : Int) := by omega
          have hr0 := hide hq
          clear hq
          go_wp2
          clear z0
          go_loopw [12] (fun x wq => ∃ k : Nat, k ≤ (L2 i).length ∧ x = .int .i64 k ∧ S4 w tag Z #[vl, .slice pf1 N1 cf1, .slice pw1 N1 cw1, .slice pf2 N2 cf2, .slice pw2 N2 cw2, (.slice pd1 Dn1.length cd1), (.slice pd2 Dn2.length cd2), vh] tag N1 vs1 (fun i => (L1 i).length) (prt mkS 1 f1 (fun i => (L1 i).length) (fun i => (L1 i).map S) N1 0) (.slice pf1 N1 cf1) 0 (.slice pd1 Dn1.length cd1) Dn1 (.slice none 0 0) 0 N2 vs2 (fun i => (L2 i).length) (prt mkW 2 f2 (fun i => (L2 i).length) (fun i => cellsW (L2 i)) i k) (.slice pf2 N2 cf2) 0 (.slice pd2 Dn2.length cd2) Dn2 (.slice none 0 0) 0 wq) (fun x _ => (L2 i).length - (Go.RowKit.intOf x).toNat)
          case atStart => exact ⟨0, by omega, rfl, unhide hr0⟩
          case round =>
            clear hr0
            obtain ⟨k, hk, rfl, hq⟩ := hrel
            have z0 : wr.cell? ⟨Z, 3, none⟩ = some (.slice pf2 N2 cf2) := hq.s.cell 3
            have hZr2 := lt_of_row hq.s.blk
            obtain ⟨G, cG, eG, hG, hGt⟩ := hq.b2.at hlt
            cases eG
            obtain ⟨pv, cv, hv⟩ := owns_form (hq.b2.fl i (Nat.zero_le _) hlt)
            have hsm := hq.b2.sm i hlt
            by_cases hkl : k < (L2 i).length
            · have hkl' : (k : Int) < ((L2 i).length : Int) := by omega
              obtain ⟨g, cg, cur, e1, e2, -⟩ := owns_at (hq.b2.fl i (Nat.zero_le _) hlt) (show 0 < (L2 i).length by omega)
              have hgt := hq.b2.ft i (Nat.zero_le _) hlt g (by rw [e1]; rfl)
              have hgl := lt_of_row e2
              have hrow := hq.b2.fl i (Nat.zero_le _) hlt
              have hro := hrow
              rw [e1] at hrow hG
              have hlen := hrow.1
              obtain ⟨u0, hu0⟩ : ∃ u, ((prt mkW 2 f2 (fun i => (L2 i).length) (fun i => cellsW (L2 i)) i k) i)[k * 2]? = some u := ⟨((prt mkW 2 f2 (fun i => (L2 i).length) (fun i => cellsW (L2 i)) i k) i)[k * 2]'(by omega), List.getElem?_eq_getElem (by omega)⟩
              obtain ⟨u1, hu1⟩ : ∃ u, ((prt mkW 2 f2 (fun i => (L2 i).length) (fun i => cellsW (L2 i)) i k) i)[k * 2 + 1]? = some u := ⟨((prt mkW 2 f2 (fun i => (L2 i).length) (fun i => cellsW (L2 i)) i k) i)[k * 2 + 1]'(by omega), List.getElem?_eq_getElem (by omega)⟩
              have y0 := owns_cell hrow (k * 2) u0 hu0
              have y1 := owns_cell hrow (k * 2 + 1) u1 hu1
              have fz0 := frz e2 (k * 2)
              have fz1 := frz e2 (k * 2 + 1)
              have hGl := blk_lt hG
              have hps := prt_set2 f2 (fun i => (L2 i).length) (fun i => cellsW (L2 i)) i k (by simp [cellsW_len]) hkl
              rw [show (-1 - ((f2 + i : Nat) : Int)) = -1 - (f2 : Int) - (i : Int) by omega] at hps
              have hst := prt_step (mk := mkW) (sz := 2) (f := f2) (ns := (fun i => (L2 i).length)) (C := (fun i => cellsW (L2 i))) i k _ hps
              generalize hmm : (-1 - (f2 : Int) - (i : Int)) = mm at *
              have q2 := owns_set (owns_set hrow (k * 2) (I mm)) (k * 2 + 1) (S [])
              rw [← e1] at q2
              have q3 := hq.mark2 (Nat.zero_le _) q2 ((Only.setCell wr ⟨g, k * 2, none⟩ (I mm)).put ⟨g, k * 2 + 1, none⟩ (S []) (.inl rfl)) (fun k' q _ => by rw [show k' = g from q]; exact hgt)
              rw [hst] at q3
              have HN := hide q3
              clear q2 q3 hq hst hps hrow hro e1 e2 hu0 hu1 hlen
              go_wp2
              refine ⟨⟨k + 1, by omega, by go_num, unhide HN⟩, ?_⟩
              simp [Go.RowKit.intOf]; omega
            · have hkl' : ¬ (k : Int) < ((L2 i).length : Int) := by omega
              have hd' : decide (k < (L2 i).length) = false := by simp; omega
              have hke : k = (L2 i).length := by omega
              have hGl := blk_lt hG
              rw [hv] at hG
              have hpn : (prt mkW 2 f2 (fun i => (L2 i).length) (fun i => cellsW (L2 i)) i (L2 i).length) = (prt mkW 2 f2 (fun i => (L2 i).length) (fun i => cellsW (L2 i)) (i + 1) 0) := prt_next i (by simp [cellsW_len])
              rw [hke, hpn] at hq
              have HN := hide hq
              clear hq hke hv hpn
              go_wp2
              refine ⟨⟨i + 1, by omega, by go_num, unhide HN⟩, ?_⟩
              simp [Go.RowKit.intOf]; omega
        · have hlt' : ¬ (i : Int) < (N2 : Int) := by omega
          have hd : decide (i < N2) = false := by simp; omega
          have hiN : i = N2 := by omega
          rw [hiN] at hq
          clear hiN
          have HS2 := hide hq
          clear hq
          go_wp2
          clear z0 hlt hlt' hd hZr
          go_loopw [13] (fun i wr => ∃ (lo : Nat) (tg : Nat → Tg) (pe : Option Addr) (ce : Nat) (En : List Value) (x : Value) (ln : Nat), lo ≤ N1 ∧ i = .int .i64 lo ∧ En.length = 12 * (f1 + lo) ∧ S4 w tag Z #[vl, .slice pf1 N1 cf1, .slice pw1 N1 cw1, .slice pf2 N2 cf2, .slice pw2 N2 cw2, (.slice pe En.length ce), (.slice pd2 Dn2.length cd2), vh] tg N1 vs1 (fun i => (L1 i).length) (prt mkS 1 f1 (fun i => (L1 i).length) (fun i => (L1 i).map S) N1 0) (.slice pf1 N1 cf1) lo (.slice pe En.length ce) En x ln N2 vs2 (fun i => (L2 i).length) (prt mkW 2 f2 (fun i => (L2 i).length) (fun i => cellsW (L2 i)) N2 0) (.slice pf2 N2 cf2) 0 (.slice pd2 Dn2.length cd2) Dn2 (.slice none 0 0) 0 wr) (fun i _ => N1 - (Go.RowKit.intOf i).toNat)
          case atStart => exact ⟨0, tag, pd1, cd1, Dn1, .slice none 0 0, 0, by omega, rfl, by have := (unhide HD).1; omega, unhide HS2⟩
          case round =>
          clear HS2
          obtain ⟨lo, tg0, pe1, ce1, En1, x1, ln1, hlo, rfl, hEl, hq⟩ := hrel
          have z0 : wr.cell? ⟨Z, 1, none⟩ = some (.slice pf1 N1 cf1) := hq.s.cell 1
          have hZr := lt_of_row hq.s.blk
          by_cases hlt : lo < N1
          · have hlt' : (lo : Int) < (N1 : Int) := by omega
            obtain ⟨G, cG, eG, hG, hGt⟩ := hq.b1.at hlt
            cases eG
            obtain ⟨pv, cv, hv⟩ := owns_form (hq.b1.fl lo (Nat.le_refl _) hlt)
            have hsm := hq.b1.sm lo hlt
            have HG := hide (G1.start (m := f1 + lo) hq hlt (prt_done _ _ hlt))
            have hGl := blk_lt hG
            rw [hv] at hG
            rw [hv] at HG
            have HL0 := hide hEl
            clear hq hv hEl
            go_wp2
            clear hG z0
            go_loopw [14, 15] (fun xv kv wq => ∃ (k : Nat) (tg : Nat → Tg) (pe : Option Addr) (ce : Nat) (En : List Value), k ≤ 12 ∧ kv = .int .i64 k ∧ En.length = 12 * (f1 + lo) + k ∧ G1 w tag Z #[vl, .slice (some ⟨G, 0, none⟩) N1 cf1, .slice pw1 N1 cw1, .slice pf2 N2 cf2, .slice pw2 N2 cw2, (.slice pe En.length ce), (.slice pd2 Dn2.length cd2), vh] tg N1 vs1 (fun i => (L1 i).length) (prt mkS 1 f1 (fun i => (L1 i).length) (fun i => (L1 i).map S) N1 0) (.slice (some ⟨G, 0, none⟩) N1 cf1) (lo + 1) (.slice pe En.length ce) En xv ((L1 lo).length + k) N2 vs2 (fun i => (L2 i).length) (prt mkW 2 f2 (fun i => (L2 i).length) (fun i => cellsW (L2 i)) N2 0) (.slice pf2 N2 cf2) 0 (.slice pd2 Dn2.length cd2) Dn2 (.slice none 0 0) 0 lo (f1 + lo) wq) (fun _ kv _ => 12 - (Go.RowKit.intOf kv).toNat)
            case atStart => exact ⟨0, tg0, pe1, ce1, En1, by omega, rfl, unhide HL0, unhide HG⟩
            case round =>
              clear HG HL0
              obtain ⟨k, tg, pe, ce, En, hk, rfl, hEl, hA⟩ := hrel
              by_cases hk12 : k < 12
              · have hk12' : (k : Int) < 12 := by omega
                have z5 : wr.cell? ⟨Z, 5, none⟩ = some (.slice pe En.length ce) := hA.s.s.cell 5
                have hZr2 := lt_of_row hA.s.s.blk
                obtain ⟨px, cx, rfl⟩ := owns_form hA.xr
                have hdv : En.length / 12 = f1 + lo := by omega
                have hEn : En.length ≤ 1000000000 := by omega
                have HM := hide (fun W => mark_any (f1 + lo) W)
                rw [Int.natCast_add] at HM
                have HA := hide hA
                have HL := hide hEl
                clear hA hEl
                go_wp2_with (first
                  | (at_builtin; refine push_own 26 28 _ 1 24 Try.underlying26 info28 rfl (by decide) rfl (.tmp 180) (.tmp 182) rfl (.slice pe En.length ce) En.length En (by rfl) wr (unhide HA).s.d1.rd [.slice px ((L1 lo).length + k) cx] rfl (by intro u hu; obtain rfl := List.mem_singleton.1 hu; rfl) (by rfl) (by omega) (by omega) ?_
                     intro p5 c5 w5 r1 r2 r3
                     have hA1 := (unhide HA).view hdv (by omega) r1 r2 r3
                     have z5b : w5.cell? ⟨Z, 5, none⟩ = some (.slice pe En.length ce) := hA1.s.s.cell 5
                     have f5b := frz hA1.s.s.blk 5
                     have hZ5 := lt_of_row hA1.s.s.blk
                     have HA2 := hide (hA1.putc 5 (.slice p5 (En.length + 1) c5) (cs' := #[vl, .slice (some ⟨G, 0, none⟩) N1 cf1, .slice pw1 N1 cw1, .slice pf2 N2 cf2, .slice pw2 N2 cw2, (.slice p5 (En.length + 1) c5), (.slice pd2 Dn2.length cd2), vh]) rfl)
                     clear r1 r2 r3 hA1)
                  | (go_at_call 40; refine (unhide HM _).mono ?_; rintro e w7 ⟨rfl, hb7⟩; have HA3 := hide ((unhide HA2).below hb7); clear hb7)
                  | (at_builtin; refine wp_gr 28 9 _ 1 16 Try.underlying28 info9 rfl (by decide) (by decide) rfl (.tmp 186) (.tmp 191) rfl (.slice px ((L1 lo).length + k) cx) ((L1 lo).length + k) _ [S (mkv (f1 + lo))] (by rfl) w7 (unhide HA3).xr rfl (by intro u hu; obtain rfl := List.mem_singleton.1 hu; rfl) (by rfl) (by omega) ?_
                     intro p8 c8 w8 hr8 hg8 ho8
                     have hA4 := (unhide HA3).below ((Below.refl w7.heap.size w7).alloc (Nat.le_refl _) (.cells [S (mkv (f1 + lo))].toArray 9))
                     have HA4 := hide (hA4.grow hr8 hg8 (by rw [show (w7.alloc (.cells [S (mkv (f1 + lo))].toArray 9)).heap.size = w7.heap.size + 1 by simp]; exact ho8))
                     clear hr8 hg8 ho8 hA4)
                  | fail)
                have hA4 := unhide HA4
                have hl4 : En.length + 1 = (En ++ [Value.slice px ((L1 lo).length + k) cx]).length := by simp
                rw [hl4] at hA4
                refine ⟨⟨k + 1, _, p5, c5, En ++ [.slice px ((L1 lo).length + k) cx], by omega, by go_num, by have := unhide HL; simp; omega, hA4⟩, ?_⟩
                simp [Go.RowKit.intOf]; omega
              · have hk12' : ¬ (k : Int) < 12 := by omega
                have hke : k = 12 := by omega
                have HA := hide hA.s
                have HL := hide hEl
                obtain ⟨px, cx, rfl⟩ := owns_form hA.xr
                clear hA hEl
                go_wp2
                refine ⟨⟨lo + 1, tg, pe, ce, En, _, _, by omega, by go_num, by have := unhide HL; omega, unhide HA⟩, ?_⟩
                simp [Go.RowKit.intOf]; omega
          · have hlt' : ¬ (lo : Int) < (N1 : Int) := by omega
            have hd : decide (lo < N1) = false := by simp; omega
            have hiN : lo = N1 := by omega
            rw [hiN] at hq hEl
            clear hiN
            have HS2 := hide hq
            have HE1 := hide hEl
            clear hq hEl
            go_wp2
            clear z0 hlt hlt' hd hZr
            go_loopw [16] (fun i wr => ∃ (lo : Nat) (tg : Nat → Tg) (pe : Option Addr) (ce : Nat) (En : List Value) (x : Value) (ln : Nat), lo ≤ N2 ∧ i = .int .i64 lo ∧ En.length = 12 * (f2 + lo) ∧ S4 w tag Z #[vl, .slice pf1 N1 cf1, .slice pw1 N1 cw1, .slice pf2 N2 cf2, .slice pw2 N2 cw2, (.slice pe1 En1.length ce1), (.slice pe En.length ce), vh] tg N1 vs1 (fun i => (L1 i).length) (prt mkS 1 f1 (fun i => (L1 i).length) (fun i => (L1 i).map S) N1 0) (.slice pf1 N1 cf1) N1 (.slice pe1 En1.length ce1) En1 x1 ln1 N2 vs2 (fun i => (L2 i).length) (prt mkW 2 f2 (fun i => (L2 i).length) (fun i => cellsW (L2 i)) N2 0) (.slice pf2 N2 cf2) lo (.slice pe En.length ce) En x ln wr) (fun i _ => N2 - (Go.RowKit.intOf i).toNat)
            case atStart => exact ⟨0, tg0, pd2, cd2, Dn2, .slice none 0 0, 0, by omega, rfl, by have := (unhide HD).2; omega, unhide HS2⟩
            case round =>
            clear HS2
            obtain ⟨lo, tg2, pe2, ce2, En2, x2, ln2, hlo, rfl, hEl, hq⟩ := hrel
            have z0 : wr.cell? ⟨Z, 3, none⟩ = some (.slice pf2 N2 cf2) := hq.s.cell 3
            have hZr := lt_of_row hq.s.blk
            by_cases hlt : lo < N2
            · have hlt' : (lo : Int) < (N2 : Int) := by omega
              obtain ⟨G, cG, eG, hG, hGt⟩ := hq.b2.at hlt
              cases eG
              obtain ⟨pv, cv, hv⟩ := owns_form (hq.b2.fl lo (Nat.le_refl _) hlt)
              have hsm := hq.b2.sm lo hlt
              have HG := hide (G2.start (m := f2 + lo) hq hlt (prt_done _ _ hlt))
              have hGl := blk_lt hG
              rw [hv] at hG
              rw [hv] at HG
              have HL0 := hide hEl
              clear hq hv hEl
              go_wp2
              clear hG z0
              go_loopw [17, 18] (fun xv kv wq => ∃ (k : Nat) (tg : Nat → Tg) (pe : Option Addr) (ce : Nat) (En : List Value), k ≤ 12 ∧ kv = .int .i64 k ∧ En.length = 12 * (f2 + lo) + k ∧ G2 w tag Z #[vl, .slice pf1 N1 cf1, .slice pw1 N1 cw1, .slice (some ⟨G, 0, none⟩) N2 cf2, .slice pw2 N2 cw2, (.slice pe1 En1.length ce1), (.slice pe En.length ce), vh] tg N1 vs1 (fun i => (L1 i).length) (prt mkS 1 f1 (fun i => (L1 i).length) (fun i => (L1 i).map S) N1 0) (.slice pf1 N1 cf1) N1 (.slice pe1 En1.length ce1) En1 x1 ln1 N2 vs2 (fun i => (L2 i).length) (prt mkW 2 f2 (fun i => (L2 i).length) (fun i => cellsW (L2 i)) N2 0) (.slice (some ⟨G, 0, none⟩) N2 cf2) (lo + 1) (.slice pe En.length ce) En xv ((L2 lo).length + k) lo (f2 + lo) wq) (fun _ kv _ => 12 - (Go.RowKit.intOf kv).toNat)
              case atStart => exact ⟨0, tg2, pe2, ce2, En2, by omega, rfl, unhide HL0, unhide HG⟩
              case round =>
                clear HG HL0
                obtain ⟨k, tg, pe, ce, En, hk, rfl, hEl, hA⟩ := hrel
                by_cases hk12 : k < 12
                · have hk12' : (k : Int) < 12 := by omega
                  have z5 : wr.cell? ⟨Z, 6, none⟩ = some (.slice pe En.length ce) := hA.s.s.cell 6
                  have hZr2 := lt_of_row hA.s.s.blk
                  obtain ⟨px, cx, rfl⟩ := owns_form hA.xr
                  have hdv : En.length / 12 = f2 + lo := by omega
                  have hEn : En.length ≤ 1000000000 := by omega
                  have HA := hide hA
                  have HL := hide hEl
                  clear hA hEl
                  go_wp2_with (first
                    | (at_builtin; refine push_own 27 43 _ 1 24 Try.underlying27 info43 rfl (by decide) rfl (.tmp 217) (.tmp 219) rfl (.slice pe En.length ce) En.length En (by rfl) wr (unhide HA).s.d2.rd [.slice px ((L2 lo).length + k) cx] rfl (by intro u hu; obtain rfl := List.mem_singleton.1 hu; rfl) (by rfl) (by omega) (by omega) ?_
                       intro p5 c5 w5 r1 r2 r3
                       have hA1 := (unhide HA).view hdv (by omega) r1 r2 r3
                       have z5b : w5.cell? ⟨Z, 6, none⟩ = some (.slice pe En.length ce) := hA1.s.s.cell 6
                       have f5b := frz hA1.s.s.blk 6
                       have hZ5 := lt_of_row hA1.s.s.blk
                       have HA2 := hide (hA1.putc 6 (.slice p5 (En.length + 1) c5) (cs' := #[vl, .slice pf1 N1 cf1, .slice pw1 N1 cw1, .slice (some ⟨G, 0, none⟩) N2 cf2, .slice pw2 N2 cw2, (.slice pe1 En1.length ce1), (.slice p5 (En.length + 1) c5), vh]) rfl)
                       clear r1 r2 r3 hA1)
                    | (at_builtin; refine wp_gr 43 69 _ 2 24 Try.underlying43 info69 rfl (by decide) (by decide) rfl (.tmp 223) (.tmp 229) rfl (.slice px ((L2 lo).length + k) cx) ((L2 lo).length + k) _ [I (-1 - (f2 : Int) - (lo : Int)), S []] (by rfl) (w5.setCell ⟨Z, 6, none⟩ (.slice p5 (En.length + 1) c5)) (unhide HA2).xr rfl (by intro u hu; simp at hu; rcases hu with rfl | rfl <;> rfl) (by rw [show (w5.setCell ⟨Z, 6, none⟩ (Value.slice p5 (En.length + 1) c5)).heap.size = w5.heap.size from by simp]; rfl) (by omega) ?_
                       intro p8 c8 w8 hr8 hg8 ho8
                       have hA4 := (unhide HA2).below ((Below.refl _ _).alloc (Nat.le_refl _) (.cells [I (-1 - (f2 : Int) - (lo : Int)), S []].toArray 69))
                       rw [show [I (-1 - (f2 : Int) - (lo : Int)), S []] = mkW (f2 + lo) by unfold mkW; rw [show (-1 - (f2 : Int) - (lo : Int)) = -1 - ((f2 + lo : Nat) : Int) by omega]] at hr8 hg8 hA4
                       have HA4 := hide (hA4.grow hr8 hg8 (by simpa using ho8))
                       clear hr8 hg8 ho8 hA4)
                    | fail)
                  have hA4 := unhide HA4
                  have hl4 : En.length + 1 = (En ++ [Value.slice px ((L2 lo).length + k) cx]).length := by simp
                  rw [hl4] at hA4
                  refine ⟨⟨k + 1, _, p5, c5, En ++ [.slice px ((L2 lo).length + k) cx], by omega, by go_num, by have := unhide HL; simp; omega, hA4⟩, ?_⟩
                  simp [Go.RowKit.intOf]; omega
                · have hk12' : ¬ (k : Int) < 12 := by omega
                  have hke : k = 12 := by omega
                  have HA := hide hA.s
                  have HL := hide hEl
                  obtain ⟨px, cx, rfl⟩ := owns_form hA.xr
                  clear hA hEl
                  go_wp2
                  refine ⟨⟨lo + 1, tg, pe, ce, En, _, _, by omega, by go_num, by have := unhide HL; omega, unhide HA⟩, ?_⟩
                  simp [Go.RowKit.intOf]; omega
            · have hlt' : ¬ (lo : Int) < (N2 : Int) := by omega
              have hd : decide (lo < N2) = false := by simp; omega
              have hiN : lo = N2 := by omega
              rw [hiN] at hq hEl
              clear hiN
              have hE1 := unhide HE1
              have p0 := hq
              have y0 : wr.cell? ⟨Z, 1, none⟩ = some (.slice pf1 N1 cf1) := p0.s.cell 1
              have g0 := frz p0.s.blk 1
              have m0 := lt_of_row p0.s.blk
              have p1 := p0.put 1 (.slice none 0 0)
              have y1 : (wr.setCell ⟨Z, 1, none⟩ (.slice none 0 0)).cell? ⟨Z, 2, none⟩ = some (.slice pw1 N1 cw1) := p1.s.cell 2
              have g1 := frz p1.s.blk 2
              have m1 := lt_of_row p1.s.blk
              have p2 := p1.put 2 (.slice none 0 0)
              have y2 : ((wr.setCell ⟨Z, 1, none⟩ (.slice none 0 0)).setCell ⟨Z, 2, none⟩ (.slice none 0 0)).cell? ⟨Z, 3, none⟩ = some (.slice pf2 N2 cf2) := p2.s.cell 3
              have g2 := frz p2.s.blk 3
              have m2 := lt_of_row p2.s.blk
              have p3 := p2.put 3 (.slice none 0 0)
              have y3 : (((wr.setCell ⟨Z, 1, none⟩ (.slice none 0 0)).setCell ⟨Z, 2, none⟩ (.slice none 0 0)).setCell ⟨Z, 3, none⟩ (.slice none 0 0)).cell? ⟨Z, 4, none⟩ = some (.slice pw2 N2 cw2) := p3.s.cell 4
              have g3 := frz p3.s.blk 4
              have m3 := lt_of_row p3.s.blk
              have p4 := p3.put 4 (.slice none 0 0)
              have HF := hide p4
              have z5 : ((((wr.setCell ⟨Z, 1, none⟩ (.slice none 0 0)).setCell ⟨Z, 2, none⟩ (.slice none 0 0)).setCell ⟨Z, 3, none⟩ (.slice none 0 0)).setCell ⟨Z, 4, none⟩ (.slice none 0 0)).cell? ⟨Z, 5, none⟩ = some (.slice pe1 En1.length ce1) := p4.s.cell 5
              have hZ9 := lt_of_row p4.s.blk
              clear p0 p1 p2 p3 p4 hq HE1
              go_wp2
              clear y0 y1 y2 y3 g0 g1 g2 g3 m0 m1 m2 m3 z0 z5 hZr hlt hlt' hd
              generalize ((((wr.setCell ⟨Z, 1, none⟩ (.slice none 0 0)).setCell ⟨Z, 2, none⟩ (.slice none 0 0)).setCell ⟨Z, 3, none⟩ (.slice none 0 0)).setCell ⟨Z, 4, none⟩ (.slice none 0 0)) = W9 at *
              go_loopw [19] (fun x wr => ∃ r : Nat, r ≤ En1.length ∧ x = .int .i64 r ∧ Below W9.heap.size W9 wr) (fun x _ => En1.length - (Go.RowKit.intOf x).toNat)
              case atStart => exact ⟨0, by omega, rfl, Below.refl _ _⟩
              case round =>
              obtain ⟨r, hr, rfl, hb⟩ := hrel
              have z5 : wr.cell? ⟨Z, 5, none⟩ = some (.slice pe1 En1.length ce1) := (hb.cell (p := ⟨Z, 5, none⟩) hZ9).trans ((unhide HF).s.cell 5)
              have hZr := Nat.lt_of_lt_of_le hZ9 hb.size
              by_cases hlt : r < En1.length
              · have hlt' : (r : Int) < (En1.length : Int) := by omega
                obtain ⟨v, hv⟩ : ∃ v, En1[r]? = some v := ⟨En1[r], List.getElem?_eq_getElem hlt⟩
                obtain ⟨p, n, c, ev, hn, hvv⟩ := (unhide HF).d1.dn r v hv
                obtain ⟨G, cG, eG, hG⟩ := (unhide HF).d1.at hv
                cases eG
                subst ev
                have hGl := blk_lt hG
                have hGw : wr.cell? ⟨G, r, none⟩ = some (.slice p n c) := (hb.cell (p := ⟨G, r, none⟩) hGl).trans hG
                have hGlr := blk_lt hGw
                have HB := hide hb
                have HV := hide hvv
                have HGc := hide hG
                clear hb hv hvv hG
                go_wp2
                clear hGw z5
                go_loopw [20] (fun x wq => ∃ k : Nat, k ≤ n ∧ x = .int .i64 k ∧ Below W9.heap.size W9 wq) (fun x _ => n - (Go.RowKit.intOf x).toNat)
                case atStart => exact ⟨0, by omega, rfl, unhide HB⟩
                case round =>
                  clear HB
                  obtain ⟨k, hk, rfl, hb⟩ := hrel
                  have z5 : wr.cell? ⟨Z, 5, none⟩ = some (.slice (some ⟨G, 0, none⟩) En1.length ce1) := (hb.cell (p := ⟨Z, 5, none⟩) hZ9).trans ((unhide HF).s.cell 5)
                  have hZr := Nat.lt_of_lt_of_le hZ9 hb.size
                  have hG : wr.cell? ⟨G, r, none⟩ = some (.slice p n c) := (hb.cell (p := ⟨G, r, none⟩) hGl).trans (unhide HGc)
                  have hGlr := blk_lt hG
                  by_cases hkl : k < n
                  · have hkl' : (k : Int) < (n : Int) := by omega
                    obtain ⟨g, cur, e1, -, e3, -, e5⟩ := unhide HV (by omega)
                    subst e1
                    have hc := e5 k hkl 0 (S (mkv (r / 12))) (by decide) rfl
                    rw [Nat.mul_one, Nat.add_zero] at hc
                    have hgl := lt_of_row e3
                    have HB := hide hb
                    have HB2 := hide (show ∀ W : World, Below wr.heap.size wr W → Below W9.heap.size W9 W from fun _ k => hb.trans (k.mono hb.size))
                    have HM := hide (fun W => mark_any (r / 12) W)
                    generalize mkv (r / 12) = mv at *
                    clear hb e5
                    go_wp2_with fail
                    refine rsk Z G En1.length ce1 g n c r k mv rfl rfl rfl _ _ (show 278 ≤ 314 from by decide) rfl rfl rfl (fun _ W => Below wr.heap.size wr W) ?h0 ?hp hlt hkl (by omega) ?l3 ?l6 ?l9 ?c12 ?_
                    case h0 => exact (Below.refl _ _).drew
                    case hp => exact fun _ _ _ _ h => h
                    case l3 => exact fun _ W h => (World.cell?_of_block (h.block Z hZr)).trans z5
                    case l6 =>
                      intro _ W h
                      rw [Nat.zero_add]
                      exact (World.cell?_of_block (h.block G hGlr)).trans hG
                    case l9 =>
                      intro _ W h
                      rw [Nat.zero_add]
                      exact (World.cell?_of_block ((unhide HB2 _ h).block g hgl)).trans hc
                    case c12 =>
                      intro _ W h _
                      refine (unhide HM W).mono ?_
                      rintro e w2 ⟨rfl, hb⟩
                      exact ⟨rfl, h.trans (hb.mono h.size)⟩
                    intro L W _ hW
                    have HN := hide (unhide HB2 _ hW)
                    clear hW z5 hG hc e3
                    simp only [Act.put, List.setIfInBounds_toArray, List.set_cons_succ, List.set_cons_zero]
                    go_wp2
                    refine ⟨⟨k + 1, by omega, by go_num, unhide HN⟩, ?_⟩
                    simp [Go.RowKit.intOf]; omega
                  · have hkl' : ¬ (k : Int) < (n : Int) := by omega
                    have hd' : decide (k < n) = false := by simp; omega
                    have HB := hide hb
                    clear hb
                    go_wp2
                    refine ⟨⟨r + 1, by omega, by go_num, unhide HB⟩, ?_⟩
                    simp [Go.RowKit.intOf]; omega
              · have hlt' : ¬ (r : Int) < (En1.length : Int) := by omega
                have hd : decide (r < En1.length) = false := by simp; omega
                have HB1 := hide hb
                clear hb
                go_wp2
                clear z5 hlt hlt' hd hZr hr
                go_loopw [21] (fun x wr => ∃ r : Nat, r ≤ En2.length ∧ x = .int .i64 r ∧ Below W9.heap.size W9 wr) (fun x _ => En2.length - (Go.RowKit.intOf x).toNat)
                case atStart => exact ⟨0, by omega, rfl, unhide HB1⟩
                case round =>
                clear HB1
                obtain ⟨r, hr, rfl, hb⟩ := hrel
                have z6 : wr.cell? ⟨Z, 6, none⟩ = some (.slice pe2 En2.length ce2) := (hb.cell (p := ⟨Z, 6, none⟩) hZ9).trans ((unhide HF).s.cell 6)
                have hZr := Nat.lt_of_lt_of_le hZ9 hb.size
                by_cases hlt : r < En2.length
                · have hlt' : (r : Int) < (En2.length : Int) := by omega
                  obtain ⟨v, hv⟩ : ∃ v, En2[r]? = some v := ⟨En2[r], List.getElem?_eq_getElem hlt⟩
                  obtain ⟨p, n, c, ev, hn, hvv⟩ := (unhide HF).d2.dn r v hv
                  obtain ⟨G, cG, eG, hG⟩ := (unhide HF).d2.at hv
                  cases eG
                  subst ev
                  have hGl := blk_lt hG
                  have hGw : wr.cell? ⟨G, r, none⟩ = some (.slice p n c) := (hb.cell (p := ⟨G, r, none⟩) hGl).trans hG
                  have hGlr := blk_lt hGw
                  have HB := hide hb
                  have HV := hide hvv
                  have HGc := hide hG
                  clear hb hv hvv hG
                  go_wp2
                  clear hGw z6
                  go_loopw [22] (fun x wq => ∃ k : Nat, k ≤ n ∧ x = .int .i64 k ∧ Below W9.heap.size W9 wq) (fun x _ => n - (Go.RowKit.intOf x).toNat)
                  case atStart => exact ⟨0, by omega, rfl, unhide HB⟩
                  case round =>
                    clear HB
                    obtain ⟨k, hk, rfl, hb⟩ := hrel
                    have z6 : wr.cell? ⟨Z, 6, none⟩ = some (.slice (some ⟨G, 0, none⟩) En2.length ce2) := (hb.cell (p := ⟨Z, 6, none⟩) hZ9).trans ((unhide HF).s.cell 6)
                    have hZr := Nat.lt_of_lt_of_le hZ9 hb.size
                    have hG : wr.cell? ⟨G, r, none⟩ = some (.slice p n c) := (hb.cell (p := ⟨G, r, none⟩) hGl).trans (unhide HGc)
                    have hGlr := blk_lt hG
                    by_cases hkl : k < n
                    · have hkl' : (k : Int) < (n : Int) := by omega
                      obtain ⟨g, cur, e1, -, e3, -, e5⟩ := unhide HV (by omega)
                      subst e1
                      have hc := e5 k hkl 0 (I (-1 - ((r / 12 : Nat) : Int))) (by decide) rfl
                      have hcr : wr.cell? ⟨g, k * 2, none⟩ = some (I (-1 - ((r / 12 : Nat) : Int))) := (hb.cell (p := ⟨g, k * 2, none⟩) (lt_of_row e3)).trans hc
                      have hgl := blk_lt hcr
                      have hr12 : ((r : Nat) : Int) / 12 = ((r / 12 : Nat) : Int) := by omega
                      have hrb : (r / 12 : Nat) ≤ 1000000000 := by omega
                      have HB := hide hb
                      clear hb e5 hc e3
                      generalize r / 12 = r12 at *
                      go_wp2
                      refine ⟨⟨k + 1, by omega, by go_num, unhide HB⟩, ?_⟩
                      simp [Go.RowKit.intOf]; omega
                    · have hkl' : ¬ (k : Int) < (n : Int) := by omega
                      have hd' : decide (k < n) = false := by simp; omega
                      have HB := hide hb
                      clear hb
                      go_wp2
                      refine ⟨⟨r + 1, by omega, by go_num, unhide HB⟩, ?_⟩
                      simp [Go.RowKit.intOf]; omega
                · have hlt' : ¬ (r : Int) < (En2.length : Int) := by omega
                  have hd : decide (r < En2.length) = false := by simp; omega
                  have HB1 := hide hb
                  clear hb
                  have HL2 := hide (And.intro hE1 hEl)
                  clear hE1 hEl
                  go_wp2
                  go_ret
                  have hF := (unhide HF).below (unhide HB1)
                  exact ⟨rfl, tg2, pe1, ce1, pe2, ce2, En1, En2, hF.s, hF.d1.other (fun k hk => by cases hk), hF.d2.other (fun k hk => by cases hk), (unhide HL2).1, (unhide HL2).2⟩
end Go.Proofs.Ytpelmacblglhoaa
