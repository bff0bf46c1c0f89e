import Derived.Test.YthlacailhfhjnaaGreatDoorWjf
import Derived.Test.YthlacailhfhjnaaGreatDoorWjm
namespace Go.Proofs.YthlacailhfhjnaaGreatDoor
open Go.RowKit Go.Lib
/-- All that still looks at behind outer. -/
structure Stl (B Z G n cap H cap2 : Nat) (vs : Nat → Value) (Ls : Nat → List Fl) (mm mw ml : Value) (w : World) : Prop where
  blk : w.heap[Z]? = some (.cells (bk8 (.slice (some ⟨G, 0, none⟩) n cap) (.slice (some ⟨H, 0, none⟩) n cap2) (.slice none 0 0) (.slice none 0 0) mm mw ml) 53 (0, 0))
  rows : RwS B G n vs w Ls
  hH : H < w.heap.size
  was : ∀ i, i < n → ∃ p c, w.cell? ⟨H, i, none⟩ = some (.slice p (Ls i).length c) ∧ Fls w p (Ls i).length (Ls i)
set_option maxHeartbeats 16000000 in
set_option maxRecDepth 8000 in
theorem still2_any (B Z G n cap H cap2 : Nat) (vs : Nat → Value) (Ls : Nat → List Fl) (mm mw : Value) (w : World)
    (hO : Calls Tryz.prog 53 #[.pointer (some ⟨Z, 0, none⟩)] w fun e w1 => e = .returned (.bool true) ∧ Below B w w1 ∧ ∃ ml, Stl B Z G n cap H cap2 vs Ls mm mw ml w1) (hBZ : B ≤ Z) (hn : n ≤ 2000000000) (hl : ∀ i, i < n → (Ls i).length ≤ 100000) :
    Calls Tryz.prog 27 #[.pointer (some ⟨Z, 0, none⟩)] w fun e w' => e = .returned (.bool true) ∧ Below B w w' := by
  have HO := hide hO
  have HL := hide hl
  clear hO hl
  go_enter Tryz.func27, Tryz.ntmps27
  go_wp2_with fail
  refine (unhide HO).mono ?_
  rintro e w1 ⟨rfl, hB0, ml, hS⟩
  have HB0 := hide hB0
  have HZ := hide hS.blk
  have HP := hide hS.rows
  have HW := hide hS.was
  have hH := hS.hH
  clear hB0 hS HO
  go_wp2
  go_loopw [4] (fun i wr => ∃ k : Nat, k ≤ n ∧ i = .int .i64 k ∧ Below w1.heap.size w1 wr) (fun i _ => n - (Go.RowKit.intOf i).toNat)
  case atStart => exact ⟨0, by omega, rfl, Below.refl _ _⟩
  case round =>
  obtain ⟨r, hr, rfl, hb⟩ := hrel
  have hz := (hb.block Z (lt_of_row (unhide HZ))).trans (unhide HZ)
  have z0 : wr.cell? ⟨Z, 0, none⟩ = some (.slice (some ⟨G, 0, none⟩) n cap) := cell_of_row wr _ 0 _ 53 (0, 0) hz
  have z1 : wr.cell? ⟨Z, 1, none⟩ = some (.slice (some ⟨H, 0, none⟩) n cap2) := cell_of_row wr _ 1 _ 53 (0, 0) hz
  by_cases hlt : r < n
  · have hlt' : (r : Int) < (n : Int) := by omega
    obtain ⟨p, c, e1, e2⟩ := (unhide HP).row r hlt |>.fls
    obtain ⟨p2, c2, e3, e4⟩ := unhide HW r hlt
    have HB := hide hb
    have hB2 : ∀ W : World, Below wr.heap.size wr W → Below w1.heap.size w1 W := fun _ k => hb.trans (k.mono hb.size)
    have HB2 := hide hB2
    have HL1 := hide (unhide HL r hlt)
    clear hb hB2 hz
    go_wp2_with fail
    refine rsa Z G n cap H n cap2 r (.slice p (Ls r).length c) (.slice p2 (Ls r).length c2) rfl rfl rfl _ _ (show 43 ≤ 170 from by decide) rfl rfl (fun _ W => Below wr.heap.size wr W) ?h0 ?hp hlt hlt ?l3 ?l6 ?l10 ?l13 ?c14 ?_
    case h0 => exact (Below.refl _ _).drew
    case hp => exact fun _ _ _ _ h => h
    case l3 => exact fun _ W h => (World.cell?_of_block (h.block Z (blk_lt z0))).trans z0
    case l6 =>
      intro _ W h
      rw [Nat.zero_add, ← e1]
      exact (World.cell?_of_block ((unhide HB2 _ h).block G (unhide HP).ltG)).trans ((unhide HP).cell r hlt)
    case l10 => exact fun _ W h => (World.cell?_of_block (h.block Z (blk_lt z1))).trans z1
    case l13 =>
      intro _ W h
      rw [Nat.zero_add]
      exact (World.cell?_of_block ((unhide HB2 _ h).block H hH)).trans e3
    case c14 =>
      intro _ W h _
      refine (fields_eq p p2 (Ls r).length c c2 (Ls r) W (e2.below (unhide HB2 _ h)) (e4.below (unhide HB2 _ h)) (by have := unhide HL1; omega)).mono ?_
      rintro e w2 ⟨rfl, hb⟩
      exact ⟨rfl, h.trans (hb.mono h.size)⟩
    intro L W _ hW
    have HN := hide (unhide HB2 _ hW)
    clear hW z0 z1 e1 e2 e3 e4
    go_wp2
    refine ⟨⟨r + 1, by omega, by go_num, unhide HN⟩, ?_⟩
    simp [Go.RowKit.intOf]; omega
  · have hd : decide (r < n) = false := by simp; omega
    have HP2 := hide ((unhide HP).below hb)
    have HZ2 := hide hz
    have HB := hide (hb.mono (show B ≤ w1.heap.size from Nat.le_of_lt (Nat.lt_of_le_of_lt (unhide HP).high (unhide HP).ltG)))
    clear hb hz z1 HW HZ hH
    go_wp2
    go_loopw [6] (fun i wr => ∃ k : Nat, k ≤ n ∧ i = .int .i64 k ∧ RwS B G n vs wr (part Ls k 0) ∧ wr.heap[Z]? = some (.cells (bk8 (.slice (some ⟨G, 0, none⟩) n cap) (.slice (some ⟨H, 0, none⟩) n cap2) (.slice none 0 0) (.slice none 0 0) mm mw ml) 53 (0, 0)) ∧ Below B w1 wr) (fun i _ => n - (Go.RowKit.intOf i).toNat)
    case atStart => exact ⟨0, by omega, rfl, by rw [part_zero]; exact unhide HP2, unhide HZ2, unhide HB⟩
    case round =>
    clear HP2 HZ2 HB z0 HP
    obtain ⟨i, hi, rfl, hr, hz, hbr⟩ := hrel
    have z0 : wr.cell? ⟨Z, 0, none⟩ = some (.slice (some ⟨G, 0, none⟩) n cap) := cell_of_row wr _ 0 _ 53 (0, 0) hz
    by_cases hlt : i < n
    · have hlt' : (i : Int) < (n : Int) := by omega
      have hr0 := hide (And.intro hr (And.intro hz hbr))
      clear hr hz hbr
      go_wp2
      clear z0
      go_loopw [7] (fun x wq => ∃ k : Nat, k ≤ (Ls i).length ∧ x = .int .i64 k ∧ RwS B G n vs wq (part Ls i k) ∧ wq.heap[Z]? = some (.cells (bk8 (.slice (some ⟨G, 0, none⟩) n cap) (.slice (some ⟨H, 0, none⟩) n cap2) (.slice none 0 0) (.slice none 0 0) mm mw ml) 53 (0, 0)) ∧ Below B w1 wq) (fun x _ => (Ls i).length - (Go.RowKit.intOf x).toNat)
      case atStart => exact ⟨0, by omega, rfl, unhide hr0⟩
      case round =>
        clear hr0
        obtain ⟨k, hk, rfl, hq, hz, hbq⟩ := hrel
        have z0 : wr.cell? ⟨Z, 0, none⟩ = some (.slice (some ⟨G, 0, none⟩) n cap) := cell_of_row wr _ 0 _ 53 (0, 0) hz
        have hcell := hq.cell i hlt
        obtain ⟨p, c, hv⟩ : ∃ p c, vs i = .slice p (Ls i).length c := by
          obtain ⟨p, c, e, _⟩ := (hq.row i hlt).fls
          rw [part_len] at e
          exact ⟨p, c, e⟩
        rw [hv] at hcell
        by_cases hkl : k < (Ls i).length
        · have hkl' : (k : Int) < ((Ls i).length : Int) := by omega
          obtain ⟨g, cap', cur, e1, e2, e3, e4, e5, e6, e7⟩ := hq.at i k hlt (by rw [part_len]; exact hkl)
          rw [part_len] at e1
          rw [hv] at e1
          obtain ⟨rfl, rfl⟩ : p = some ⟨g, 0, none⟩ ∧ c = cap' := by cases e1; exact ⟨rfl, rfl⟩
          have hlen : (part Ls i k i).length = (Ls i).length := part_len Ls i k i
          have hgZ : Z ≠ g := fun e => by rw [e] at hz; rw [hz] at e3; cases e3
          have HLn := hide (unhide HL i hlt)
          have hst := hide (part_step Ls i k hkl)
          have hq' := hide hq
          have hz' := hide hz
          have hbq' := hide hbq
          clear e1 hq hbq hz
          generalize (Ls i).length = m at *
          go_wp2_with fail
          refine rst Z G n cap g m c i k cur rfl rfl rfl _ _ (show 77 ≤ 170 from by decide) rfl rfl rfl (WdK wr g k i) ?h0 ?hp hlt hkl ?l3 ?l6 ?c9 ?n11 ?_
          case h0 => exact .inl ⟨rfl, (Below.refl _ _).drew⟩
          case hp => exact fun x hx L W hW => hW.pure x (by intro e; subst e; simp at hx)
          case l3 =>
            intro L W hW
            exact (World.cell?_of_block (hW.block Z (blk_lt z0) hgZ)).trans z0
          case l6 =>
            intro L W hW
            rw [Nat.zero_add]
            exact (World.cell?_of_block (hW.block G (unhide hq').ltG (Ne.symm e7))).trans hcell
          case c9 =>
            intro L W hW h6
            refine (mark2_any i W (by omega)).mono ?_
            rintro e w2 ⟨rfl, hb⟩
            refine ⟨rfl, ?_⟩
            rcases hW with ⟨h1, h2⟩ | ⟨_, h2, _⟩
            · exact .inl ⟨(upd_ne (by decide)).trans h1, h2.trans (hb.mono h2.size)⟩
            · rw [h6] at h2; cases h2
          case n11 =>
            intro L W hW h8 h6 _
            rcases hW with ⟨h1, h2⟩ | ⟨h1, _⟩
            · exact ⟨.inr ⟨upd_eq, upd_of h6, W, h2, by rw [Nat.zero_add]⟩, (h2.block g e6).trans e3, by omega⟩
            · rw [h8] at h1; cases h1
          intro L W hall hW
          have hW8 := hall 11 (by decide)
          obtain ⟨W0, hb0, hWe⟩ : ∃ W0, Below wr.heap.size wr W0 ∧ W = (W0.setCell ⟨g, k * 2, none⟩ (S (mk i).1)).setCell ⟨g, k * 2 + 1, none⟩ (S (mk i).2) := by
            rcases hW with ⟨h1, _⟩ | ⟨_, _, h3⟩
            · rw [hW8] at h1; cases h1
            · exact h3
          have HZN := hide (show W.heap[Z]? = _ from (by rw [hWe, setCells_other hgZ]; exact hb0.block Z (blk_lt z0) : W.heap[Z]? = wr.heap[Z]?).trans (unhide hz'))
          have HN := hide (((unhide hq').below hb0).set i k g hlt e2 (by rw [hlen]; exact hkl) (mk i))
          rw [unhide hst, ← hWe] at HN
          have HB := hide ((unhide hbq').trans (hb0.mono (by have := (unhide hq').ltG; have := (unhide hq').high; omega)))
          have HB2 := hide (show Below B w1 W by rw [hWe]; exact ((unhide HB).setCell (p := ⟨g, k * 2, none⟩) e5 _).setCell (p := ⟨g, k * 2 + 1, none⟩) e5 _)
          clear hWe hW HB hb0 z0
          have hmm := unhide HLn
          go_wp2
          refine ⟨⟨k + 1, by omega, by go_num, unhide HN, unhide HZN, unhide HB2⟩, ?_⟩
          simp [Go.RowKit.intOf]; omega
        · have hkl' : ¬ (k : Int) < ((Ls i).length : Int) := by omega
          have : k = (Ls i).length := by omega
          subst this
          rw [part_next] at hq
          generalize (Ls i).length = m at *
          have hq' := hide (And.intro hq (And.intro hz hbq))
          clear hq hbq hz
          go_wp2
          refine ⟨⟨i + 1, by omega, by go_num, unhide hq'⟩, ?_⟩
          simp [Go.RowKit.intOf]; omega
    · have hd : decide (i < n) = false := by simp; omega
      have : i = n := by omega
      subst this
      have hst := hide (show AlY B wr.heap.size G i vs (fun j => (Ls j).length) w1 0 0 [] [] [] (.slice none 0 0) 0 (.slice none 0 0) (.slice none 0 0) Z (.slice (some ⟨G, 0, none⟩) i cap) (.slice (some ⟨H, 0, none⟩) i cap2) mm mw ml wr from ⟨⟨Vst.start (by
        refine ⟨hr.kind, hr.high, hr.cell, fun j hj => ?_, hr.apart, hr.above⟩
        have := hr.row j hj
        unfold part at this
        rw [if_pos hj] at this
        exact this), Sq.nil _ _ _, Sq.nil _ _ _, hbr, Nat.le_refl _, hr.ltG, Nat.le_of_lt (Nat.lt_of_le_of_lt hr.high hr.ltG)⟩, hz, hBZ⟩)
      clear hr hz hbr hi hlt
      obtain ⟨m, hm⟩ : ∃ m : Nat → Nat, (fun j => (Ls j).length) = m := ⟨_, rfl⟩
      have HM := hide (show ∀ j, j < i → m j ≤ 100000 from fun j hj => by rw [← hm]; exact unhide HL j hj)
      rw [hm] at hst
      clear hm HL
      generalize wr.heap.size = b at *
      go_wp2
      clear hd z0
      go_loopw [8] (fun k wr => ∃ (lo i0 len : Nat) (U V : List Vw) (x al wh : Value), lo ≤ i ∧ k = .int .i64 lo ∧ V.length = 8 * lo ∧ ((∀ v ∈ V, v ∈ U) ∧ ∀ j, j < lo → ∃ v ∈ U, v.val = vs j ∧ v.i = j) ∧ AlY B b G i vs m w1 lo i0 U V V x len al wh Z (.slice (some ⟨G, 0, none⟩) i cap) (.slice (some ⟨H, 0, none⟩) i cap2) mm mw ml wr) (fun k _ => i - (Go.RowKit.intOf k).toNat)
      case atStart => exact ⟨0, 0, 0, [], [], .slice none 0 0, .slice none 0 0, .slice none 0 0, by omega, rfl, rfl, ⟨fun _ q => q, fun j hj => absurd hj (Nat.not_lt_zero j)⟩, unhide hst⟩
      case round =>
        clear hst
        obtain ⟨lo, i0, len, U, V, x, al, wh, hlo, rfl, hV, hU, hA⟩ := hrel
        have z0 : wr.cell? ⟨Z, 0, none⟩ = some (.slice (some ⟨G, 0, none⟩) i cap) := cell_of_row wr _ 0 _ 53 (0, 0) hA.blk
        by_cases hlt : lo < i
        · have hlt' : (lo : Int) < (i : Int) := by omega
          have hcell := hA.a.vst.cell lo hlt
          obtain ⟨pf, cf, hxf, hA1⟩ := (hA.take hlt).seen hlt (by have := unhide HM lo hlt; omega)
          have hU0 := hide (show (∀ v ∈ V, v ∈ U ++ [⟨pf, m lo, cf, lo⟩]) ∧ ∀ j, j < lo + 1 → ∃ v ∈ U ++ [⟨pf, m lo, cf, lo⟩], v.val = vs j ∧ v.i = j from ⟨fun v hv => List.mem_append_left _ (hU.1 v hv), fun j hj => by
            by_cases e : j = lo
            · subst e
              exact ⟨_, List.mem_append_right _ (List.mem_singleton.2 rfl), hxf.symm, rfl⟩
            · obtain ⟨v, h1, h2⟩ := hU.2 j (by omega)
              exact ⟨v, List.mem_append_left _ h1, h2⟩⟩)
          have hA0 := hide hA1
          clear hA hA1 hU hxf
          go_wp2
          clear z0 hcell
          go_loopw [9, 10] (fun x c wr => ∃ (k : Nat) (U V : List Vw) (al wh : Value), k ≤ 8 ∧ c = .int .i64 k ∧ V.length = 8 * lo + k ∧ ((∀ v ∈ V, v ∈ U) ∧ ∀ j, j < lo + 1 → ∃ v ∈ U, v.val = vs j ∧ v.i = j) ∧ AlY B b G i vs m w1 (lo + 1) lo U V V x (m lo + k) al wh Z (.slice (some ⟨G, 0, none⟩) i cap) (.slice (some ⟨H, 0, none⟩) i cap2) mm mw ml wr) (fun _ c _ => 8 - (Go.RowKit.intOf c).toNat)
          case atStart => exact ⟨0, _, V, al, wh, by omega, rfl, hV, unhide hU0, unhide hA0⟩
          case round =>
            clear hA0 hV hU0
            clear al wh V U
            obtain ⟨k, U, V, al, wh, hk, rfl, hV2, hU, hA⟩ := hrel
            have HU := hide hU
            clear hU
            by_cases hlt2 : k < 8
            · have hlt2' : (k : Int) < 8 := by omega
              have hml := unhide HM lo hlt
              have HA := hide hA
              clear hA
              go_wp2_with (first
                | (go_at_call 55; refine (mark2_any lo _ (by omega)).mono ?_; rintro e w7 ⟨rfl, hb7⟩; have HA1 := hide ((unhide HA).keep hb7); clear hb7)
                | (at_builtin; refine wp_grF rfl (.tmp 97) (.tmp 100) rfl _ (List.replicate (m lo + k) (mk lo)) rfl w7 (mk lo) (unhide HA1).a.vst.xrow (by rfl) (by simp; omega) ?_
                   intro v8 w8 hr8 hg8 ho8
                   rw [List.length_replicate] at hg8
                   have hA2 := (unhide HA1).grow hr8 hg8 ho8
                   obtain ⟨p8, c8, hx8, hv8⟩ := hA2.a.vst.view hlt (by omega)
                   have HA2 := hide hA2
                   have HV8 := hide hv8
                   have z3 : w8.cell? ⟨Z, 3, none⟩ = some al := cell_of_row w8 _ 3 _ 53 (0, 0) hA2.blk
                   subst hx8
                   clear hr8 hg8 ho8 hA2 hv8)
                | (at_builtin; refine push49b (b := b) rfl (.tmp 106) (.tmp 108) rfl _ (V.map Vw.val) rfl w8 p8 (m lo + k + 1) c8 (unhide HA2).a.s1 (by rfl) (by simp; omega) (unhide HA2).a.room ?_
                   intro v5 w5 hs5 hg5
                   obtain ⟨p5, c5, hx5⟩ : ∃ p c, v5 = .slice p (8 * lo + k + 1) c := by obtain ⟨p, c, e⟩ := hs5.len; exact ⟨p, c, by rw [e]; simp [hV2]⟩
                   have e5 := (unhide HA2).blk1 hg5
                   have f5 : w5.frozen? ⟨Z, 3, none⟩ = false := by simp [World.frozen?, e5]
                   have y3 : w5.cell? ⟨Z, 3, none⟩ = some al := cell_of_row w5 _ 3 _ 53 (0, 0) e5
                   have y4 : w5.cell? ⟨Z, 4, none⟩ = some wh := cell_of_row w5 _ 4 _ 53 (0, 0) e5
                   have HA3 := hide ((unhide HA2).push1 (unhide HV8) hs5 hg5)
                   rw [hx5] at HA3
                   rw [hx5]
                   have HS5 := hide (show ∀ v, (w5.setCell ⟨Z, 3, none⟩ v).heap.size = w5.heap.size from fun v => by simp)
                   clear hs5 hg5 hx5 e5)
                | (at_builtin; refine push50b (b := b) rfl (.tmp 116) (.tmp 118) rfl _ (V.map who) rfl _ lo (unhide HA3).a.s2 (by rw [unhide HS5]; rfl) (by simp; omega) (unhide HA3).a.room ?_
                   intro v6 w6 hs6 hg6
                   obtain ⟨p6, c6, hx6⟩ : ∃ p c, v6 = .slice p (8 * lo + k + 1) c := by obtain ⟨p, c, e⟩ := hs6.len; exact ⟨p, c, by rw [e]; simp [hV2]⟩
                   have e6 := (unhide HA3).blk2 hg6
                   have f6 : w6.frozen? ⟨Z, 4, none⟩ = false := by simp [World.frozen?, e6]
                   have y5 : w6.cell? ⟨Z, 4, none⟩ = some wh := cell_of_row w6 _ 4 _ 53 (0, 0) e6
                   have HA4 := hide ((unhide HA3).push2 (y := ⟨p8, m lo + k + 1, c8, lo⟩) hs6 hg6)
                   rw [hx6] at HA4
                   rw [hx6]
                   clear hs6 hg6 hx6 e6))
              refine ⟨⟨k + 1, U ++ [⟨p8, m lo + k + 1, c8, lo⟩], V ++ [⟨p8, m lo + k + 1, c8, lo⟩], _, _, by omega, by go_num, by simp; omega, ⟨fun v hv => (List.mem_append.1 hv).elim (fun q => List.mem_append_left _ ((unhide HU).1 v q)) (fun q => List.mem_append_right _ q), fun j hj => by
                obtain ⟨v, h1, h2⟩ := (unhide HU).2 j hj
                exact ⟨v, List.mem_append_left _ h1, h2⟩⟩, unhide HA4⟩, ?_⟩
              simp [Go.RowKit.intOf]; omega
            · have : k = 8 := by omega
              subst this
              have HA := hide hA
              clear hA
              go_wp2
              refine ⟨⟨lo + 1, lo, m lo + 8, U, V, _, al, wh, by omega, by go_num, by omega, unhide HU, unhide HA⟩, ?_⟩
              simp [Go.RowKit.intOf]; omega
        · have hd : decide (lo < i) = false := by simp; omega
          have : lo = i := by omega
          subst this
          have HA := hide hA
          clear hA
          go_wp2
          clear hd z0
          go_loopw [11] (fun k wq => ∃ r : Nat, r ≤ lo ∧ k = .int .i64 r ∧ Below wr.heap.size wr wq) (fun k _ => lo - (Go.RowKit.intOf k).toNat)
          case atStart => exact ⟨0, by omega, rfl, Below.refl _ _⟩
          case round =>
            obtain ⟨r, hr, rfl, hb⟩ := hrel
            have hA := (unhide HA).keep hb
            have z0 : wr.cell? ⟨Z, 0, none⟩ = some (.slice (some ⟨G, 0, none⟩) lo cap) := cell_of_row wr _ 0 _ 53 (0, 0) hA.blk
            by_cases hlt : r < lo
            · have hlt' : (r : Int) < (lo : Int) := by omega
              obtain ⟨v, hv1, hv2, hv3⟩ := hU.2 r hlt
              have hg := hA.a.vst.good v hv1
              have hvs := hA.a.vst.size v hv1
              have hcell := hA.a.vst.cell r hlt
              have hGl := hA.a.vst.ltG'
              have HB := hide hb
              clear hb hA
              subst hv3
              go_wp2_with fail
              refine rsb Z G lo cap v.i v.val rfl rfl rfl _ _ (show 141 ≤ 170 from by decide) rfl rfl (fun _ W => Below wr.heap.size wr W) ?h0 ?hp hlt ?l3 ?l6 ?c8 ?c9 ?_
              case h0 => exact (Below.refl _ _).drew
              case hp => exact fun _ _ _ _ h => h
              case l3 => exact fun _ W h => (World.cell?_of_block (h.block Z (blk_lt z0))).trans z0
              case l6 =>
                intro _ W h
                rw [Nat.zero_add, hv2]
                exact (World.cell?_of_block (h.block G hGl)).trans hcell
              case c8 =>
                intro _ W h _
                refine (mark2_any v.i W (by omega)).mono ?_
                rintro e w2 ⟨rfl, hb⟩
                exact ⟨rfl, h.trans (hb.mono h.size)⟩
              case c9 =>
                intro _ W h _
                refine (reads_any v.p v.n v.c (mk v.i) W (Fls.below hg h) (by omega)).mono ?_
                rintro e w2 ⟨rfl, hb⟩
                exact ⟨rfl, h.trans (hb.mono h.size)⟩
              intro L W _ hW
              have HN := hide ((unhide HB).trans (hW.mono (unhide HB).size))
              clear hW z0 hcell hg hvs
              go_wp2
              refine ⟨⟨v.i + 1, by omega, by go_num, unhide HN⟩, ?_⟩
              simp [Go.RowKit.intOf]; omega
            · have hd : decide (r < lo) = false := by simp; omega
              have HA2 := hide hA
              clear hb hA HA
              go_wp2
              clear hd z0
              obtain ⟨pa, ca, hal⟩ : ∃ p c, al = .slice p (8 * lo) c := by obtain ⟨p, c, e⟩ := (unhide HA2).a.s1.len; exact ⟨p, c, by rw [e]; simp [hV]⟩
              obtain ⟨pw, cw, hwl⟩ : ∃ p c, wh = .slice p (8 * lo) c := by obtain ⟨p, c, e⟩ := (unhide HA2).a.s2.len; exact ⟨p, c, by rw [e]; simp [hV]⟩
              subst hal hwl
              go_loopw [13] (fun k wq => ∃ r : Nat, r ≤ 8 * lo ∧ k = .int .i64 r ∧ Below wr.heap.size wr wq) (fun k _ => 8 * lo - (Go.RowKit.intOf k).toNat)
              case atStart => exact ⟨0, by omega, rfl, Below.refl _ _⟩
              case round =>
                obtain ⟨r, hr, rfl, hb⟩ := hrel
                have hA := (unhide HA2).keep hb
                have z3 : wr.cell? ⟨Z, 3, none⟩ = some (.slice pa (8 * lo) ca) := cell_of_row wr _ 3 _ 53 (0, 0) hA.blk
                have z4 : wr.cell? ⟨Z, 4, none⟩ = some (.slice pw (8 * lo) cw) := cell_of_row wr _ 4 _ 53 (0, 0) hA.blk
                by_cases hlt : r < 8 * lo
                · have hlt' : (r : Int) < ((8 * lo : Nat) : Int) := by omega
                  have hlt'' : (r : Int) < 8 * (lo : Int) := by omega
                  have hrV : r < V.length := by omega
                  obtain ⟨A, cA, hal, hc1⟩ := hA.a.s1.at r (by simpa using hrV)
                  obtain ⟨D, cD, hwl, hc2⟩ := hA.a.s2.at r (by simpa using hrV)
                  obtain ⟨rfl, rfl⟩ : pa = some ⟨A, 0, none⟩ ∧ ca = cA := by injection hal with e1 _ e2; exact ⟨e1, e2⟩
                  obtain ⟨rfl, rfl⟩ : pw = some ⟨D, 0, none⟩ ∧ cw = cD := by injection hwl with e1 _ e2; exact ⟨e1, e2⟩
                  obtain ⟨v, hv⟩ : ∃ v, V[r]? = some v := ⟨V[r], List.getElem?_eq_getElem hrV⟩
                  have hvm : v ∈ V := List.mem_of_getElem? hv
                  have q1 : (V.map Vw.val).getD r undef = v.val := by simp [hv]
                  have q2 : (V.map who).getD r undef = .int .i64 (v.i : Int) := by simp [hv, who]
                  rw [q1] at hc1
                  rw [q2] at hc2
                  have hg := hA.a.vst.good v (hU.1 v hvm)
                  have hvs := hA.a.vst.size v (hU.1 v hvm)
                  have hvi := hA.a.vst.small v (hU.1 v hvm)
                  have HB := hide hb
                  clear hb hA hal hwl q1 q2 hv
                  go_wp2_with fail
                  refine rsc Z A (8 * lo) ca D (8 * lo) cw r v.i v.val rfl rfl rfl _ _ (show 168 ≤ 170 from by decide) rfl rfl (fun _ W => Below wr.heap.size wr W) ?h0 ?hp hlt hlt ?l3 ?l6 ?l10 ?l13 ?c14 ?c15 ?_
                  case h0 => exact (Below.refl _ _).drew
                  case hp => exact fun _ _ _ _ h => h
                  case l3 => exact fun _ W h => (World.cell?_of_block (h.block Z (blk_lt z3))).trans (by rw [Nat.zero_add]; exact z3)
                  case l6 => exact fun _ W h => (World.cell?_of_block (h.block A (blk_lt hc1))).trans (by rw [Nat.zero_add]; exact hc1)
                  case l10 => exact fun _ W h => (World.cell?_of_block (h.block Z (blk_lt z3))).trans (by rw [Nat.zero_add]; exact z4)
                  case l13 => exact fun _ W h => (World.cell?_of_block (h.block D (blk_lt hc2))).trans (by rw [Nat.zero_add]; exact hc2)
                  case c14 =>
                    intro _ W h _
                    refine (mark2_any v.i W (by omega)).mono ?_
                    rintro e w2 ⟨rfl, hb⟩
                    exact ⟨rfl, h.trans (hb.mono h.size)⟩
                  case c15 =>
                    intro _ W h _
                    refine (reads_any v.p v.n v.c (mk v.i) W (Fls.below hg h) (by omega)).mono ?_
                    rintro e w2 ⟨rfl, hb⟩
                    exact ⟨rfl, h.trans (hb.mono h.size)⟩
                  intro L W _ hW
                  have HN := hide ((unhide HB).trans (hW.mono (unhide HB).size))
                  clear hW z3 z4 hc1 hc2 hg hvs
                  go_wp2
                  refine ⟨⟨r + 1, by omega, by go_num, unhide HN⟩, ?_⟩
                  simp [Go.RowKit.intOf]; omega
                · have hd : decide ((r : Int) < ((8 * lo : Nat) : Int)) = false := by simp; omega
                  have hd2 : ¬ (r : Int) < 8 * (lo : Int) := by omega
                  have HE := hide hA.a.below
                  clear hb hA HA2
                  go_wp2
                  go_ret
                  exact ⟨rfl, (unhide HB0).trans (unhide HE)⟩
end Go.Proofs.YthlacailhfhjnaaGreatDoor
