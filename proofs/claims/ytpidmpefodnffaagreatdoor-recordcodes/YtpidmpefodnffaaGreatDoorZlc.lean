import Derived.Test.YtpidmpefodnffaaGreatDoorZrdg
namespace Go.Proofs.YtpidmpefodnffaaGreatDoor
open Go.RowKit Go.Lib
set_option maxHeartbeats 4000000
set_option maxRecDepth 8000
theorem s_ix26 {w : World} (g n cap k : Nat) (hk : k < n) : (Instr.indexAt 26 (.slice (some ⟨g, 0, none⟩) n cap) (I (k : Int))).run Tryz.prog w = .ok (.pointer (some ⟨g, k, none⟩)) w := by
  have h1 : (k : Int) < (n : Int) := by omega
  have u := Tryz.underlying26
  have z := Tryz.sizeOf22
  simp [go_sem, u, z, h1]
theorem s_ix22 {w : World} (g n cap k : Nat) (hk : k < n) : (Instr.indexAt 22 (.slice (some ⟨g, 0, none⟩) n cap) (I (k : Int))).run Tryz.prog w = .ok (.pointer (some ⟨g, k, none⟩)) w := by
  have h1 : (k : Int) < (n : Int) := by omega
  have u := Tryz.underlying22
  have z := Tryz.sizeOf9
  simp [go_sem, u, z, h1]
theorem s_cv (i : Nat) (hi : i < 256) {w : World} : (convert 3 5 (I (i : Int))).run Tryz.prog w = .ok (.int .u8 (i : Int)) w := by
  have e : IntKind.u8.wrap (i : Int) = (i : Int) := by rw [IntKind.wrap_u8]; omega
  simp [go_sem, Tryz.underlying3, Tryz.underlying5, e]
theorem s_bs105 (n : Int) (W : World) : (Instr.buildSlice 105 1 #[(0, .int .u8 n)]).run Tryz.prog W = .ok (.slice (some ⟨W.heap.size, 0, none⟩) 1 1) (W.alloc (.cells #[.int .u8 n] 5)) := by
  simp [go_sem, Tryz.zeroValue5, Tryz.sizeOf5]
theorem s_tx {w : World} {g : Nat} (i : Nat) (hi : i < 256) (h : w.heap[g]? = some (.cells #[.int .u8 (i : Int)] 5 (0, 0))) : (convert 105 9 (.slice (some ⟨g, 0, none⟩) 1 1)).run Tryz.prog w = .ok (S [UInt8.ofNat i]) w := by
  refine run_text w g 0 1 1 [UInt8.ofNat i] rfl fun j hj => ?_
  obtain rfl : j = 0 := by omega
  rw [cell_of_row _ _ _ _ 5 (0, 0) h]
  simp
  omega
theorem s_mk (i : Nat) (x : Operand) {w : World} : (do eqGuard .add 9 (.const (.string ⟨#[109, 97, 114, 107]⟩)) x (.string ⟨#[109, 97, 114, 107]⟩) (S [UInt8.ofNat i]); binOp .add 9 (.string ⟨#[109, 97, 114, 107]⟩) (S [UInt8.ofNat i]) : Sem Value).run Tryz.prog w = .ok (S ([109, 97, 114, 107] ++ [UInt8.ofNat i])) w :=
  s_cat (.const (.string ⟨#[109, 97, 114, 107]⟩)) x [109, 97, 114, 107] [UInt8.ofNat i] (by simp)
theorem s_quo (j : Nat) (hj : j ≤ 1000000) (x y : Operand) {w : World} : (do eqGuard .quo 3 x y (I (j : Int)) (I 12); binOp .quo 3 (I (j : Int)) (I 12) : Sem Value).run Tryz.prog w = .ok (I ((j / 12 : Nat) : Int)) w := by
  have e : Int.tdiv (j : Int) 12 = ((j / 12 : Nat) : Int) := by
    rw [Int.tdiv_eq_ediv_of_nonneg (by omega)]
    omega
  have q : IntKind.i64.wrap ((j : Int) / 12) = (j : Int) / 12 := by rw [IntKind.wrap_i64]; omega
  simp [go_sem, eqGuard, e, q]
theorem s_neq (a b : Bs) (x y : Operand) {w : World} : (do eqGuard .neq 9 x y (S a) (S b); binOp .neq 9 (S a) (S b) : Sem Value).run Tryz.prog w = .ok (.bool (decide (a ≠ b))) w :=
  s_bin (by simp [eqGuard]) (run_neq a b w)
/-- What holds of the world while a mark is laid. -/
def WdA (wr : World) (g k i : Nat) (c : Nat) (L : Nat → Bool) (W : World) : Prop :=
  (L 11 = false ∧ Below wr.heap.size wr W ∧ (L 7 = true → W.heap[c]? = some (.cells #[.int .u8 (i : Int)] 5 (0, 0)))) ∨ (L 11 = true ∧ L 7 = true ∧ L 8 = true ∧ ∃ W0, Below wr.heap.size wr W0 ∧ W = W0.setCell ⟨g, k, none⟩ (S (mk i)))
theorem upd_of {L : Nat → Bool} {i j : Nat} (h : L j = true) : upd L i j = true := by by_cases e : j = i <;> simp [upd, e, h]
theorem upd_eq {L : Nat → Bool} {i : Nat} : upd L i i = true := by simp [upd]
theorem WdA.pure {wr : World} {g k i c : Nat} {L : Nat → Bool} {W : World} (h : WdA wr g k i c L W) (x : Nat) (h7 : x ≠ 7) (h11 : x ≠ 11) : WdA wr g k i c (upd L x) W := by
  rcases h with ⟨h1, h2, h3⟩ | ⟨h1, h2, h3, h4⟩
  · exact .inl ⟨(upd_ne (Ne.symm h11)).trans h1, h2, fun q => h3 ((upd_ne (Ne.symm h7)).symm.trans q)⟩
  · exact .inr ⟨upd_of h1, upd_of h2, upd_of h3, h4⟩
theorem WdA.block {wr : World} {g k i c : Nat} {L : Nat → Bool} {W : World} (h : WdA wr g k i c L W) (G : Nat) (hG : G < wr.heap.size) (hne : G ≠ g) : W.heap[G]? = wr.heap[G]? := by
  rcases h with ⟨_, h2, _⟩ | ⟨_, _, _, W0, h3, rfl⟩
  · exact h2.block G hG
  · rw [setCells_other hne]
    exact h3.block G hG
theorem v14_ne (G n cap ii g m c0 kk : Nat) (X : Bs) (u : Int) (c c' j : Nat) (h : j ≠ 7) : vrza14 G n cap ii g m c0 kk X u c' j = vrza14 G n cap ii g m c0 kk X u c j := by
  unfold vrza14
  split <;> first | rfl | exact absurd rfl h
theorem v30_ne (G n cap jj g m c0 kk : Nat) (X Y : Bs) (u qq : Int) (b : Bool) (c c' j : Nat) (h : j ≠ 10) : vrza30 G n cap jj g m c0 kk X Y u qq b c' j = vrza30 G n cap jj g m c0 kk X Y u qq b c j := by
  unfold vrza30
  split <;> first | rfl | exact absurd rfl h
/-- What holds of the world while a text is held against a mark. -/
def WdB (wr : World) (i : Nat) (c : Nat) (L : Nat → Bool) (W : World) : Prop := Below wr.heap.size wr W ∧ (L 10 = true → W.heap[c]? = some (.cells #[.int .u8 (i : Int)] 5 (0, 0)))
/-- What was wanted. -/
def Wnt (H n : Nat) (w : World) (Ls : Nat → List Bs) : Prop := ∀ i, i < n → ∃ p c, w.cell? ⟨H, i, none⟩ = some (.slice p (Ls i).length c) ∧ Sts w p (Ls i).length (Ls i)
theorem Wnt.below {H n : Nat} {w w' : World} {Ls : Nat → List Bs} (h : Wnt H n w Ls) (hb : Below w.heap.size w w') : Wnt H n w' Ls := fun i hi => by
  obtain ⟨p, c, h1, h2⟩ := h i hi
  exact ⟨p, c, (hb.cell (blk_lt h1)).trans h1, h2.below hb⟩
/-! ### apart -/
theorem mk_eq (i : Nat) : (ByteArray.mk #[109, 97, 114, 107] ++ ByteArray.mk #[UInt8.ofNat i]) = ⟨(mk i).toArray⟩ := by
  apply ByteArray.ext
  simp [ByteArray.data_append, mk]
theorem apart_any (B G H n cap cap2 : Nat) (vs : Nat → Value) (Ls : Nat → List Bs) (w : World) (h : Rws B G n vs w Ls) (hw : Wnt H n w Ls) (hn : n ≤ 12) (hl : ∀ i, i < n → (Ls i).length ≤ 100000) :
    Calls Tryz.prog 18 #[.slice (some ⟨G, 0, none⟩) n cap, .slice (some ⟨H, 0, none⟩) n cap2] w fun e w' => e = .returned (.bool true) ∧ Below B w w' := by
  have HP := hide h
  have HQ := hide hw
  have HL := hide hl
  have HBw := hide (show B ≤ w.heap.size from Nat.le_of_lt (Nat.lt_of_le_of_lt h.high h.ltG))
  clear h hl hw
  go_enter Tryz.func18, Tryz.ntmps18
  go_wp2
  go_loopw [5] (fun i wr => ∃ k : Nat, k ≤ n ∧ i = .int .i64 k ∧ Below w.heap.size w wr) (fun i _ => n - (Go.RowKit.intOf i).toNat)
  case atStart => exact ⟨0, by omega, rfl, Below.refl _ _⟩
  case round =>
    obtain ⟨i, hi, rfl, hbr⟩ := hrel
    by_cases hlt : i < n
    · have hlt' : (i : Int) < (n : Int) := by omega
      have hp := (unhide HP).below hbr
      obtain ⟨pb, cb, hc2, hs2⟩ := (unhide HQ).below hbr i hlt
      have hc1 := hp.cell i hlt
      obtain ⟨pa, ca, e1, hs1⟩ := (hp.row i hlt).fls
      rw [e1] at hc1
      have hlen := unhide HL i hlt
      have hsame := same_any pa pb (Ls i).length (Ls i).length ca cb (Ls i) (Ls i)
      rw [decide_eq_true rfl] at hsame
      have HS := hide (fun W (hb : Below wr.heap.size wr W) => hsame W (hs1.below hb) (hs2.below hb) (by omega) (by omega))
      have B1 := hide (blk_lt hc1)
      have B2 := hide (blk_lt hc2)
      have HB := hide hbr
      have C1 := hide hc1
      have C2 := hide hc2
      clear hsame hs1 hs2 hp hc1 hc2 hbr hlen e1
      generalize (Ls i).length = m at *
      go_wp2_with fail
      refine rza4 G n cap H cap2 i pa pb m ca m cb true rfl (by rfl) (by rfl) _ wr (by simp) rfl rfl rfl (fun _ _ W => Below wr.heap.size wr W) ⟨(), (Below.refl _ _).drew⟩ (fun _ _ _ _ _ hW => hW) (fun W => s_ix26 G n cap i hlt)
        (fun c L W hW _ _ => s_ld (T := 22) (fun _ => by kernel_rfl) ((hW.cell (unhide B1)).trans (unhide C1))) (fun W => s_ix26 H n cap2 i hlt)
        (fun c L W hW _ _ => s_ld (T := 22) (fun _ => by kernel_rfl) ((hW.cell (unhide B2)).trans (unhide C2)))
        (fun c L W hW _ _ _ => (unhide HS W hW).mono fun e w' q => ⟨c, fun _ _ => rfl, q.1, hW.trans (q.2.mono hW.size)⟩) ?_
      intro c L W hall hW
      simp only [Act.put, List.setIfInBounds_toArray, List.set_cons_succ, List.set_cons_zero]
      have HW := hide ((unhide HB).trans (hW.mono (unhide HB).size))
      clear hW hall HS C1 C2 B1 B2 HB
      go_wp2
      refine ⟨⟨i + 1, by omega, by go_num, unhide HW⟩, ?_⟩
      simp [Go.RowKit.intOf]; omega
    · have hd : decide (i < n) = false := by simp; omega
      have HP2 := hide ((unhide HP).below hbr)
      have HBr := hide (hbr.mono (unhide HBw))
      clear hbr HP HQ hi hlt HBw
      go_wp2
      go_loopw [8] (fun i wr => ∃ k : Nat, k ≤ n ∧ i = .int .i64 k ∧ Rws B G n vs wr (part Ls k 0) ∧ Below B w wr) (fun i _ => n - (Go.RowKit.intOf i).toNat)
      case atStart => exact ⟨0, by omega, rfl, by rw [part_zero]; exact unhide HP2, unhide HBr⟩
      case round =>
        clear HP2 HBr
        obtain ⟨i, hi, rfl, hr, hbr⟩ := hrel
        by_cases hlt : i < n
        · have hlt' : (i : Int) < (n : Int) := by omega
          go_wp2
          have hbr0 := hide hbr
          have hr0 := hide hr
          clear hbr hr
          go_loopw [9] (fun x wq => ∃ k : Nat, k ≤ (Ls i).length ∧ x = .int .i64 k ∧ Rws B G n vs wq (part Ls i k) ∧ Below B w wq) (fun x _ => (Ls i).length - (Go.RowKit.intOf x).toNat)
          case atStart => exact ⟨0, by omega, rfl, unhide hr0, unhide hbr0⟩
          case round =>
            obtain ⟨k, hk, rfl, hq, hbq⟩ := hrel
            have hcell := hq.cell i hlt
            obtain ⟨p, c, hv⟩ : ∃ p c, vs i = .slice p (Ls i).length c := by
              obtain ⟨p, c, e, _⟩ := (hq.row i hlt).fls
              rw [part_len] at e
              exact ⟨p, c, e⟩
            rw [hv] at hcell
            by_cases hkl : k < (Ls i).length
            · have hkl' : (k : Int) < ((Ls i).length : Int) := by omega
              obtain ⟨g, cap', cur, e1, e2, e3, e4, e5, e6, e7⟩ := hq.at i k hlt (by rw [part_len]; exact hkl)
              rw [part_len] at e1
              rw [hv] at e1
              obtain ⟨rfl, rfl⟩ : p = some ⟨g, 0, none⟩ ∧ c = cap' := by cases e1; exact ⟨rfl, rfl⟩
              have HLn := hide (unhide HL i hlt)
              have hst := hide (part_step Ls i k hkl)
              have hq' := hide hq
              have hbq' := hide hbq
              clear e1 hq hbq
              generalize (Ls i).length = m at *
              go_wp2_with fail
              refine rza14 G n cap i g m c k [UInt8.ofNat i] (i : Int) rfl (by rfl) (by rfl) _ wr (by simp) rfl rfl rfl (WdA wr g k i) ⟨0, .inl ⟨rfl, (Below.refl _ _).drew, fun h => by cases h⟩⟩ ?hp (fun W => s_ix26 G n cap i hlt) ?l3 (fun W => s_cv i (by omega)) ?b7 ?t8 (fun W => s_mk i _) (fun W => s_ix22 g m c k hkl) ?s11 ?_
              case hp => exact fun x hx c L W hW => hW.pure x (by intro e; subst e; simp at hx) (by intro e; subst e; simp at hx)
              case l3 =>
                intro c0 L W hW _ _
                exact s_ld (T := 22) (fun _ => by kernel_rfl) ((World.cell?_of_block (hW.block G (unhide hq').ltG (Ne.symm e7))).trans hcell)
              case b7 =>
                intro c0 L W hW h7 _
                rcases hW with ⟨h1, h2, _⟩ | ⟨_, h2, _⟩
                · refine ⟨W.heap.size, W.alloc (.cells #[.int .u8 (i : Int)] 5), fun j hj => v14_ne _ _ _ _ _ _ _ _ _ _ _ _ j (fun e => by rw [e, h7] at hj; cases hj), s_bs105 (i : Int) W, .inl ⟨(upd_ne (by decide)).trans h1, h2.alloc h2.size _, fun _ => heap_alloc_new _ _⟩⟩
                · rw [h7] at h2; cases h2
              case t8 =>
                intro c0 L W hW h8 h7
                rcases hW with ⟨_, _, h3⟩ | ⟨_, _, h2, _⟩
                · exact s_tx i (by omega) (h3 h7)
                · rw [h8] at h2; cases h2
              case s11 =>
                intro c0 L W hW h11 h7 h8 _ _
                rcases hW with ⟨h1, h2, h3⟩ | ⟨h1, _⟩
                · have hg := (h2.block g e6).trans e3
                  obtain ⟨old, ho⟩ : ∃ old, W.cell? ⟨g, k, none⟩ = some old := by
                    rw [cell_of_row _ _ _ _ _ _ hg]
                    exact ⟨_, Array.getElem?_eq_getElem e4⟩
                  exact ⟨W.setCell ⟨g, k, none⟩ (S (mk i)), s_st (T := 9) (fun _ => by kernel_rfl) ho (frz hg k) (.inl ⟨_, rfl⟩), .inr ⟨upd_eq, upd_of h7, upd_of h8, W, h2, rfl⟩⟩
                · rw [h11] at h1; cases h1
              intro c0 L W hall hW
              have hW8 := hall 11 (by decide)
              obtain ⟨W0, hb0, hWe⟩ : ∃ W0, Below wr.heap.size wr W0 ∧ W = W0.setCell ⟨g, k, none⟩ (S (mk i)) := by
                rcases hW with ⟨h1, _⟩ | ⟨_, _, _, h3⟩
                · rw [hW8] at h1; cases h1
                · exact h3
              have HN := hide (((unhide hq').below hb0).set i k g hlt e2 (mk i))
              rw [unhide hst, ← hWe] at HN
              have HB := hide ((unhide hbq').trans (hb0.mono (by have := (unhide hq').ltG; have := (unhide hq').high; omega)))
              have HB2 := hide (show Below B w W by rw [hWe]; exact (unhide HB).setCell (p := ⟨g, k, none⟩) e5 _)
              clear hWe hW HB hb0
              simp only [Act.put, List.setIfInBounds_toArray, List.set_cons_succ, List.set_cons_zero]
              have hmm := unhide HLn
              go_wp2
              refine ⟨⟨k + 1, by omega, by go_num, unhide HN, unhide HB2⟩, ?_⟩
              simp [Go.RowKit.intOf]; omega
            · have hkl' : ¬ (k : Int) < ((Ls i).length : Int) := by omega
              have : k = (Ls i).length := by omega
              subst this
              rw [part_next] at hq
              generalize (Ls i).length = m at *
              have hq' := hide hq
              have hbq' := hide hbq
              clear hq hbq
              go_wp2
              refine ⟨⟨i + 1, by omega, by go_num, unhide hq', unhide hbq'⟩, ?_⟩
              simp [Go.RowKit.intOf]; omega
        · have hd : decide (i < n) = false := by simp; omega
          have : i = n := by omega
          subst this
          have hst := hide (show Alw B wr.heap.size G i vs (fun j => (Ls j).length) w 0 0 [] (.slice none 0 0) 0 (.slice none 0 0) wr from ⟨Vst.start (by
            refine ⟨hr.kind, hr.high, hr.cell, fun j hj => ?_, hr.apart, hr.above⟩
            have := hr.row j hj
            unfold part at this
            rw [if_pos hj] at this
            exact this), Seq.nil _ _ _, hbr, Nat.le_refl _, hr.ltG, Nat.le_of_lt (Nat.lt_of_le_of_lt hr.high hr.ltG)⟩)
          clear hr hbr hi hlt
          obtain ⟨m, hm⟩ : ∃ m : Nat → Nat, (fun j => (Ls j).length) = m := ⟨_, rfl⟩
          have HM := hide (show ∀ j, j < i → m j ≤ 100000 from fun j hj => by rw [← hm]; exact unhide HL j hj)
          rw [hm] at hst
          clear hm HL hd
          generalize wr.heap.size = b at *
          go_wp2
          go_loopw [7, 10] (fun al k wr => ∃ (lo i0 len : Nat) (V : List View) (x : Value), lo ≤ i ∧ k = .int .i64 lo ∧ V.length = 12 * lo ∧ (∀ j v, V[j]? = some v → v.i = j / 12) ∧ Alw B b G i vs m w lo i0 V x len al wr) (fun _ k _ => i - (Go.RowKit.intOf k).toNat)
          case atStart => exact ⟨0, 0, 0, [], .slice none 0 0, by omega, rfl, rfl, fun j v h => by simp at h, unhide hst⟩
          case round =>
            obtain ⟨lo, i0, len, V, x, hlo, rfl, hV, hVi, hA⟩ := hrel
            by_cases hlt : lo < i
            · have hlt' : (lo : Int) < (i : Int) := by omega
              have hcell := hA.vst.cell lo hlt
              have hA0 := hide (hA.take hlt)
              have HVi := hide hVi
              clear hA hVi
              go_wp2
              go_loopw [7, 11, 12] (fun al x c wr => ∃ (k : Nat) (V : List View), k ≤ 12 ∧ c = .int .i64 k ∧ V.length = 12 * lo + k ∧ (∀ j v, V[j]? = some v → v.i = j / 12) ∧ Alw B b G i vs m w (lo + 1) lo V x (m lo + k) al wr) (fun _ _ c _ => 12 - (Go.RowKit.intOf c).toNat)
              case atStart => exact ⟨0, V, by omega, rfl, hV, unhide HVi, unhide hA0⟩
              case round =>
                obtain ⟨k, V, hk, rfl, hV2, hVj, hA⟩ := hrel
                by_cases hlt2 : k < 12
                · have hlt2' : (k : Int) < 12 := by omega
                  have hml := unhide HM lo hlt
                  obtain ⟨p, c, hx, hv⟩ := hA.vst.view hlt (by omega)
                  have HA := hide hA
                  have HV := hide hv
                  have HX := hide hx
                  have HVj := hide hVj
                  have hwr : IntKind.u8.wrap (lo : Int) = (lo : Int) := by rw [IntKind.wrap_u8]; omega
                  rw [hx]
                  clear hA hv hx hcell hA0 HVi hVj
                  go_wp2_with (first
                    | (at_builtin; refine push30 rfl (.tmp 72) (.tmp 74) rfl _ (V.map View.val) rfl wr p (m lo + k) c (unhide HA).s1 (by rfl) (by simp; omega) (unhide HA).room ?_; intro v5 w5 hs5 hg5; have HA1 := hide ((unhide HA).push1 (unhide HV) hs5 hg5); clear hs5 hg5; have HA2 := hide ((unhide HA1).keep ((Below.refl _ w5).alloc (Nat.le_refl _) (.cells #[.int .u8 (lo : Int)] 5))); have hcv := s_tx (w := w5.alloc (.cells #[.int .u8 (lo : Int)] 5)) (g := w5.heap.size) lo (by omega) (heap_alloc_new _ _))
                    | (at_builtin; rw [mk_eq lo]; refine growF rfl (.tmp 76) (.tmp 82) rfl _ (List.replicate (m lo + k) (mk lo)) rfl (w5.alloc (.cells #[.int .u8 (lo : Int)] 5)) (mk lo) (unhide HX ▸ (unhide HA2).vst.xrow) (by rw [show (w5.alloc (.cells #[.int .u8 (lo : Int)] 5)).heap.size = w5.heap.size + 1 by simp]; rfl) (by simp; omega) ?_; intro v8 w8 hr8 hg8 ho8))
                  rw [List.length_replicate, ← unhide HX] at hg8
                  rw [← unhide HX] at ho8
                  refine ⟨⟨k + 1, V ++ [⟨p, m lo + k, c, lo⟩], by omega, by go_num, by simp; omega, ?_, (unhide HA2).grow hr8 hg8 ho8⟩, ?_⟩
                  · intro j v hj
                    rcases Nat.lt_or_ge j V.length with hjl | hjl
                    · rw [List.getElem?_append_left hjl] at hj
                      exact unhide HVj j v hj
                    · rw [List.getElem?_append_right hjl] at hj
                      rcases Nat.eq_zero_or_pos (j - V.length) with q | q
                      · rw [q] at hj
                        simp at hj
                        rw [← hj]
                        show lo = j / 12
                        omega
                      · rw [List.getElem?_eq_none (by simp; omega)] at hj
                        cases hj
                  · simp [Go.RowKit.intOf]; omega
                · have : k = 12 := by omega
                  subst this
                  have HA := hide hA
                  have HVj := hide hVj
                  clear hA hcell hA0 hVj HVi
                  go_wp2
                  refine ⟨⟨lo + 1, lo, m lo + 12, V, _, by omega, by go_num, by omega, unhide HVj, unhide HA⟩, ?_⟩
                  simp [Go.RowKit.intOf]; omega
            · have hd : decide (lo < i) = false := by simp; omega
              obtain ⟨p5, c5, e5⟩ := hA.s1.len
              rw [List.length_map] at e5
              subst e5
              have hVn : V.length ≤ 144 := by omega
              have HA := hide hA
              have HVi := hide hVi
              clear hA hst HM hV hVi
              go_wp2
              go_loopw [13] (fun k wr => ∃ j : Nat, j ≤ V.length ∧ k = .int .i64 j ∧ Alw B b G i vs m w lo i0 V x len (.slice p5 V.length c5) wr) (fun k _ => V.length - (Go.RowKit.intOf k).toNat)
              case atStart => exact ⟨0, by omega, rfl, unhide HA⟩
              case round =>
                obtain ⟨j, hj, rfl, hA⟩ := hrel
                by_cases hjl : j < V.length
                · have hjl' : (j : Int) < (V.length : Int) := by omega
                  obtain ⟨v, hv⟩ : ∃ v, V[j] = v := ⟨_, rfl⟩
                  have hmem : v ∈ V := hv ▸ List.getElem_mem hjl
                  have hv1 : (V.map View.val).getD j undef = .slice v.p v.n v.c := by simp [hjl, hv, View.val]
                  have hvi : v.i = j / 12 := unhide HVi j v (by rw [List.getElem?_eq_getElem hjl, hv])
                  have HA1 := hide hA
                  have hvn := hA.vst.size v hmem
                  have HI := hide hvi
                  clear hA HA hvi
                  go_wp2
                  go_loopw [14] (fun k wr => ∃ q : Nat, q ≤ v.n ∧ k = .int .i64 q ∧ Alw B b G i vs m w lo i0 V x len (.slice p5 V.length c5) wr) (fun k _ => v.n - (Go.RowKit.intOf k).toNat)
                  case atStart => exact ⟨0, by omega, rfl, unhide HA1⟩
                  case round =>
                    obtain ⟨q, hq, rfl, hA⟩ := hrel
                    obtain ⟨g5, cap5, e5, hc5⟩ := hA.s1.at j (by simpa using hjl)
                    rw [List.length_map] at e5
                    rw [hv1] at hc5
                    obtain ⟨rfl, rfl⟩ : p5 = some ⟨g5, 0, none⟩ ∧ c5 = cap5 := by cases e5; exact ⟨rfl, rfl⟩
                    clear e5 HA1
                    by_cases hql : q < v.n
                    · have hql' : (q : Int) < (v.n : Int) := by omega
                      obtain ⟨pv, ov, epv, hpl, hd0⟩ := Sts.at (hA.vst.good v hmem) hql
                      obtain ⟨g', cur', eg', _⟩ := hA.vst.flat v hmem _ epv
                      cases eg'
                      have hrep : (List.replicate v.n (mk v.i)).getD q [] = mk v.i := by simp [hql]
                      rw [hrep] at hd0
                      rw [epv] at hc5
                      rw [Nat.zero_add] at hd0
                      have K5 := hide (hA.s1.lt g5 rfl)
                      have C5 := hide hc5
                      have D0 := hide hd0
                      have KP := hide hpl
                      have HA2 := hide hA
                      clear hA hd0 hpl hrep hmem hv1 hv
                      go_wp2_with fail
                      refine rza30 g5 V.length c5 j pv v.n v.c q [UInt8.ofNat (j / 12)] (mk v.i) ((j / 12 : Nat) : Int) ((j / 12 : Nat) : Int) false rfl (by rfl) (by rfl) _ wr (by simp) rfl rfl rfl (WdB wr (j / 12)) ⟨0, (Below.refl _ _).drew, fun h => by cases h⟩ ?hp (fun W => s_ix26 g5 V.length c5 j hjl) ?l3 (fun W => s_ix22 pv v.n v.c q hql) ?l6 (fun W => s_quo j (by omega) _ _) (fun W => s_cv (j / 12) (by omega)) ?b10 ?t11 (fun W => s_mk (j / 12) _) ?n13 ?_
                      case hp => exact fun x hx c L W hW => ⟨hW.1, fun h => hW.2 ((upd_ne (by intro e; subst e; simp at hx)).symm.trans h)⟩
                      case l3 =>
                        intro c L W hW _ _
                        exact s_ld (T := 22) (fun _ => by kernel_rfl) ((World.cell?_of_block (hW.1.block g5 (unhide K5))).trans (unhide C5))
                      case l6 =>
                        intro c L W hW _ _
                        exact s_ld (T := 9) (fun _ => by kernel_rfl) ((World.cell?_of_block (hW.1.block pv (unhide KP))).trans (unhide D0))
                      case b10 =>
                        intro c L W hW h10 _
                        exact ⟨W.heap.size, W.alloc (.cells #[.int .u8 ((j / 12 : Nat) : Int)] 5), fun x hx => v30_ne _ _ _ _ _ _ _ _ _ _ _ _ _ _ _ x (fun e => by rw [e, h10] at hx; cases hx), s_bs105 _ W, hW.1.alloc hW.1.size _, fun _ => heap_alloc_new _ _⟩
                      case t11 =>
                        intro c L W hW _ h10
                        exact s_tx (j / 12) (by omega) (hW.2 h10)
                      case n13 =>
                        intro W
                        rw [unhide HI]
                        refine (s_neq _ _ _ _).trans ?_
                        simp [mk]
                      intro c L W _ hW
                      have HA3 := hide ((unhide HA2).keep hW.1)
                      clear hW HA2
                      simp only [Act.put, List.setIfInBounds_toArray, List.set_cons_succ, List.set_cons_zero]
                      go_wp2
                      refine ⟨⟨q + 1, by omega, by go_num, unhide HA3⟩, ?_⟩
                      simp [Go.RowKit.intOf]; omega
                    · have hdq : decide (q < v.n) = false := by simp; omega
                      have HA2 := hide hA
                      clear hA
                      go_wp2
                      refine ⟨⟨j + 1, by omega, by go_num, unhide HA2⟩, ?_⟩
                      simp [Go.RowKit.intOf]; omega
                · have hdj : decide (j < V.length) = false := by simp; omega
                  have HB := hide hA.below
                  clear hA HA
                  go_wp2
                  go_ret
                  exact ⟨rfl, unhide HB⟩
end Go.Proofs.YtpidmpefodnffaaGreatDoor
