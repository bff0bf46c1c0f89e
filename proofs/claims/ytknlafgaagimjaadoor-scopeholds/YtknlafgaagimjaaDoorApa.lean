import Derived.Test.YtknlafgaagimjaaDoorAlw
namespace Go.Proofs.YtknlafgaagimjaaDoor
open Go.RowKit Go.Lib
theorem put_list (l : List Value) (d : List Deferred) (i : Nat) (v : Value) : (⟨l.toArray, d⟩ : Act).put (some i) v = ⟨(l.set i v).toArray, d⟩ := by
  simp [Act.put]
/-- What holds of the world while a mark is laid. -/
def WdA (wr : World) (g k i : Nat) (L : Nat → Bool) (W : World) : Prop :=
  (L 8 = false ∧ Below wr.heap.size wr W) ∨ (L 8 = true ∧ L 6 = true ∧ ∃ W0, Below wr.heap.size wr W0 ∧ W = W0.setCell ⟨g, k, none⟩ (S (mk i)))
theorem upd_ne {L : Nat → Bool} {i j : Nat} (h : j ≠ i) : upd L i j = L j := by simp [upd, h]
theorem upd_of {L : Nat → Bool} {i j : Nat} (h : L j = true) : upd L i j = true := by by_cases e : j = i <;> simp [upd, e, h]
theorem upd_eq {L : Nat → Bool} {i : Nat} : upd L i i = true := by simp [upd]
theorem WdA.pure {wr : World} {g k i : Nat} {L : Nat → Bool} {W : World} (h : WdA wr g k i L W) (x : Nat) (h8 : x ≠ 8) : WdA wr g k i (upd L x) W := by
  rcases h with ⟨h1, h2⟩ | ⟨h1, h2, h3⟩
  · exact .inl ⟨(upd_ne (Ne.symm h8)).trans h1, h2⟩
  · exact .inr ⟨upd_of h1, upd_of h2, h3⟩
theorem WdA.block {wr : World} {g k i : Nat} {L : Nat → Bool} {W : World} (h : WdA wr g k i L W) (G : Nat) (hG : G < wr.heap.size) (hne : G ≠ g) : W.heap[G]? = wr.heap[G]? := by
  rcases h with ⟨h1, h2⟩ | ⟨h1, h2, W0, h3, rfl⟩
  · exact h2.block G hG
  · rw [setCells_other hne]
    exact h3.block G hG
set_option maxHeartbeats 4000000 in
set_option maxRecDepth 8000 in
theorem apart_any (B G n cap : Nat) (vs : Nat → Value) (Ls : Nat → List Bs) (w : World) (h : Rows B G n vs w Ls) (hn : n ≤ 12) (hl : ∀ i, i < n → (Ls i).length ≤ 100000) :
    Calls Tryd.prog 13 #[.slice (some ⟨G, 0, none⟩) n cap] w fun e w' => e = .returned (.bool true) ∧ Below B w w' := by
  have HP := hide h
  have HL := hide hl
  clear h hl
  go_enter Tryd.func13, Tryd.ntmps13
  go_wp2
  go_loopw [3] (fun i wr => ∃ k : Nat, k ≤ n ∧ i = .int .i64 k ∧ Rows B G n vs wr (part Ls k 0) ∧ Below B w wr) (fun i _ => n - (Go.RowKit.intOf i).toNat)
  case atStart => exact ⟨0, by omega, rfl, by rw [part_zero]; exact unhide HP, Below.refl _ _⟩
  case round =>
    obtain ⟨i, hi, rfl, hr, hbr⟩ := hrel
    by_cases hlt : i < n
    · have hlt' : (i : Int) < (n : Int) := by omega
      go_wp2
      have hbr0 := hide hbr
      have hr0 := hide hr
      clear hbr hr
      go_loopw [4] (fun x wq => ∃ k : Nat, k ≤ (Ls i).length ∧ x = .int .i64 k ∧ Rows B G n vs wq (part Ls i k) ∧ Below B w wq) (fun x _ => (Ls i).length - (Go.RowKit.intOf x).toNat)
      case atStart => exact ⟨0, by omega, rfl, unhide hr0, unhide hbr0⟩
      case round =>
        obtain ⟨k, hk, rfl, hq, hbq⟩ := hrel
        have hcell := hq.cell i hlt
        obtain ⟨p, c, hv⟩ : ∃ p c, vs i = .slice p (Ls i).length c := by
          obtain ⟨p, c, e, _⟩ := (hq.row i hlt).fls
          rw [part_len] at e
          exact ⟨p, c, e⟩
        rw [hv] at hcell
        by_cases hkl : k < (Ls i).length
        · have hkl' : (k : Int) < ((Ls i).length : Int) := by omega
          obtain ⟨g, cap', cur, e1, e2, e3, e4, e5, e6, e7⟩ := hq.at i k hlt (by rw [part_len]; exact hkl)
          rw [part_len] at e1
          rw [hv] at e1
          obtain ⟨rfl, rfl⟩ : p = some ⟨g, 0, none⟩ ∧ c = cap' := by cases e1; exact ⟨rfl, rfl⟩
          have hlen : (part Ls i k i).length = (Ls i).length := part_len Ls i k i
          have HLn := hide (unhide HL i hlt)
          have hst := hide (part_step Ls i k hkl)
          have hq' := hide hq
          have hbq' := hide hbq
          clear e1 hq hbq
          generalize (Ls i).length = m at *
          go_wp2_with fail
          refine rga G n cap g m c i k rfl rfl rfl _ _ (show 35 ≤ 90 from by decide) rfl rfl rfl (WdA wr g k i) ?h0 ?hp hlt hkl ?l3 ?c6 ?s8 ?_
          case h0 => exact .inl ⟨rfl, (Below.refl _ _).drew⟩
          case hp => exact fun x hx L W hW => hW.pure x (by intro e; subst e; simp at hx)
          case l3 =>
            intro L W hW
            rw [Nat.zero_add]
            exact (World.cell?_of_block (hW.block G (unhide hq').ltG (Ne.symm e7))).trans hcell
          case c6 =>
            intro L W hW h6
            refine (mark_any i W (by omega)).mono ?_
            rintro e w2 ⟨rfl, hb⟩
            refine ⟨rfl, ?_⟩
            rcases hW with ⟨h1, h2⟩ | ⟨_, h2, _⟩
            · exact .inl ⟨(upd_ne (by decide)).trans h1, h2.trans (hb.mono h2.size)⟩
            · rw [h6] at h2; cases h2
          case s8 =>
            intro L W hW h8 h6 _
            rcases hW with ⟨h1, h2⟩ | ⟨h1, _⟩
            · refine ⟨cur, (h2.block g e6).trans e3, by omega, .inr ⟨upd_eq, upd_of h6, W, h2, by rw [Nat.zero_add]⟩⟩
            · rw [h8] at h1; cases h1
          intro L W hall hW
          have hW8 := hall 8 (by decide)
          obtain ⟨W0, hb0, hWe⟩ : ∃ W0, Below wr.heap.size wr W0 ∧ W = W0.setCell ⟨g, k, none⟩ (S (mk i)) := by
            rcases hW with ⟨h1, _⟩ | ⟨_, _, h3⟩
            · rw [hW8] at h1; cases h1
            · exact h3
          have HN := hide (((unhide hq').below hb0).set i k g hlt e2 (mk i))
          rw [unhide hst, ← hWe] at HN
          have HB := hide ((unhide hbq').trans (hb0.mono (by have := (unhide hq').ltG; have := (unhide hq').high; omega)))
          have HB2 := hide (show Below B w W by rw [hWe]; exact (unhide HB).setCell (p := ⟨g, k, none⟩) e5 _)
          clear hWe hW HB hb0
          have hmm := unhide HLn
          go_wp2
          refine ⟨⟨k + 1, by omega, by go_num, unhide HN, unhide HB2⟩, ?_⟩
          simp [Go.RowKit.intOf]; omega
        · have hkl' : ¬ (k : Int) < ((Ls i).length : Int) := by omega
          have : k = (Ls i).length := by omega
          subst this
          rw [part_next] at hq
          generalize (Ls i).length = m at *
          have hq' := hide hq
          have hbq' := hide hbq
          clear hq hbq
          go_wp2
          refine ⟨⟨i + 1, by omega, by go_num, unhide hq', unhide hbq'⟩, ?_⟩
          simp [Go.RowKit.intOf]; omega
    · have hd : decide (i < n) = false := by simp; omega
      have : i = n := by omega
      subst this
      have hr0 := hide hr
      have hbr0 := hide hbr
      have hst := hide (show Alw B wr.heap.size G i vs (fun j => (Ls j).length) w 0 0 [] [] (.slice none 0 0) 0 (.slice none 0 0) (.slice none 0 0) wr from ⟨Vst.start (by
        refine ⟨hr.kind, hr.high, hr.cell, fun j hj => ?_, hr.apart, hr.above⟩
        have := hr.row j hj
        unfold part at this
        rw [if_pos hj] at this
        exact this), Seq.nil _ _ _, Seq.nil _ _ _, hbr, Nat.le_refl _, hr.ltG, Nat.le_of_lt (Nat.lt_of_le_of_lt hr.high hr.ltG)⟩)
      clear hr0 hbr0 hr hbr hi hlt
      obtain ⟨m, hm⟩ : ∃ m : Nat → Nat, (fun j => (Ls j).length) = m := ⟨_, rfl⟩
      have HM := hide (show ∀ j, j < i → m j ≤ 100000 from fun j hj => by rw [← hm]; exact unhide HL j hj)
      rw [hm] at hst
      clear hm HL HP hd
      generalize wr.heap.size = b at *
      go_wp2
      go_loopw [5, 6, 7] (fun al wh k wr => ∃ (lo i0 len : Nat) (V : List View) (x : Value), lo ≤ i ∧ k = .int .i64 lo ∧ V.length = 20 * lo ∧ Alw B b G i vs m w lo i0 V V x len al wh wr) (fun _ _ k _ => i - (Go.RowKit.intOf k).toNat)
      case atStart => exact ⟨0, 0, 0, [], .slice none 0 0, by omega, rfl, rfl, unhide hst⟩
      case round =>
        obtain ⟨lo, i0, len, V, x, hlo, rfl, hV, hA⟩ := hrel
        by_cases hlt : lo < i
        · have hlt' : (lo : Int) < (i : Int) := by omega
          have hcell := hA.vst.cell lo hlt
          have hA0 := hide (hA.take hlt)
          clear hA
          go_wp2
          go_loopw [5, 6, 8, 9] (fun al wh x c wr => ∃ (k : Nat) (V : List View), k ≤ 20 ∧ c = .int .i64 k ∧ V.length = 20 * lo + k ∧ Alw B b G i vs m w (lo + 1) lo V V x (m lo + k) al wh wr) (fun _ _ _ c _ => 20 - (Go.RowKit.intOf c).toNat)
          case atStart => exact ⟨0, V, by omega, rfl, hV, unhide hA0⟩
          case round =>
            obtain ⟨k, V, hk, rfl, hV2, hA⟩ := hrel
            by_cases hlt2 : k < 20
            · have hlt2' : (k : Int) < 20 := by omega
              have hml := unhide HM lo hlt
              obtain ⟨p, c, hx, hv⟩ := hA.vst.view hlt (by omega)
              have HA := hide hA
              have HV := hide hv
              have HX := hide hx
              rw [hx]
              clear hA hv hx hcell hA0
              go_wp2_with (first
                | (at_builtin; refine push30 rfl (.tmp 49) (.tmp 51) rfl _ (V.map View.val) rfl wr p (m lo + k) c (unhide HA).s1 (by rfl) (by simp; omega) (unhide HA).room ?_; intro v5 w5 hs5 hg5; have HA1 := hide ((unhide HA).push1 (unhide HV) hs5 hg5); clear hs5 hg5)
                | (at_builtin; refine push60 rfl (.tmp 53) (.tmp 55) rfl _ (V.map who) rfl w5 lo (unhide HA1).s2 (by rfl) (by simp; omega) (unhide HA1).room ?_; intro v6 w6 hs6 hg6; have HA2 := hide ((unhide HA1).push2 (y := ⟨p, m lo + k, c, lo⟩) hs6 hg6); clear hs6 hg6)
                | (refine (mark_any lo _ (by omega)).mono ?_; rintro e w7 ⟨rfl, hb7⟩; have HA3 := hide ((unhide HA2).keep hb7); clear hb7)
                | (at_builtin; refine growF rfl (.tmp 57) (.tmp 60) rfl _ (List.replicate (m lo + k) (mk lo)) rfl w7 (mk lo) (unhide HX ▸ (unhide HA3).vst.xrow) (by rfl) (by simp; omega) ?_; intro v8 w8 hr8 hg8 ho8))
              rw [List.length_replicate, ← unhide HX] at hg8
              rw [← unhide HX] at ho8
              refine ⟨⟨k + 1, V ++ [⟨p, m lo + k, c, lo⟩], by omega, by go_num, by simp; omega, (unhide HA3).grow hr8 hg8 ho8⟩, ?_⟩
              simp [Go.RowKit.intOf]; omega
            · have : k = 20 := by omega
              subst this
              have HA := hide hA
              clear hA hcell hA0
              go_wp2
              refine ⟨⟨lo + 1, lo, m lo + 20, V, _, by omega, by go_num, by omega, unhide HA⟩, ?_⟩
              simp [Go.RowKit.intOf]; omega
        · have hd : decide (lo < i) = false := by simp; omega
          obtain ⟨p5, c5, e5⟩ := hA.s1.len
          obtain ⟨p6, c6, e6⟩ := hA.s2.len
          rw [List.length_map] at e5 e6
          subst e5 e6
          have hVn : V.length ≤ 240 := by omega
          have HA := hide hA
          clear hA hst HM hV
          go_wp2
          go_loopw [10] (fun k wr => ∃ j : Nat, j ≤ V.length ∧ k = .int .i64 j ∧ Alw B b G i vs m w lo i0 V V x len (.slice p5 V.length c5) (.slice p6 V.length c6) wr) (fun k _ => V.length - (Go.RowKit.intOf k).toNat)
          case atStart => exact ⟨0, by omega, rfl, unhide HA⟩
          case round =>
            obtain ⟨j, hj, rfl, hA⟩ := hrel
            by_cases hjl : j < V.length
            · have hjl' : (j : Int) < (V.length : Int) := by omega
              obtain ⟨v, hv⟩ : ∃ v, V[j] = v := ⟨_, rfl⟩
              have hmem : v ∈ V := hv ▸ List.getElem_mem hjl
              have hv1 : (V.map View.val).getD j undef = .slice v.p v.n v.c := by simp [hjl, hv, View.val]
              have hv2 : (V.map who).getD j undef = .int .i64 (v.i : Int) := by simp [hjl, hv, who]
              have HA1 := hide hA
              have hvn := hA.vst.size v hmem
              have hvi := hA.vst.small v hmem
              clear hA HA
              go_wp2
              go_loopw [11] (fun k wr => ∃ q : Nat, q ≤ v.n ∧ k = .int .i64 q ∧ Alw B b G i vs m w lo i0 V V x len (.slice p5 V.length c5) (.slice p6 V.length c6) wr) (fun k _ => v.n - (Go.RowKit.intOf k).toNat)
              case atStart => exact ⟨0, by omega, rfl, unhide HA1⟩
              case round =>
                obtain ⟨q, hq, rfl, hA⟩ := hrel
                obtain ⟨g5, cap5, e5, hc5⟩ := hA.s1.at j (by simpa using hjl)
                obtain ⟨g6, cap6, e6, hc6⟩ := hA.s2.at j (by simpa using hjl)
                rw [List.length_map] at e5 e6
                rw [hv1] at hc5
                rw [hv2] at hc6
                obtain ⟨rfl, rfl⟩ : p5 = some ⟨g5, 0, none⟩ ∧ c5 = cap5 := by cases e5; exact ⟨rfl, rfl⟩
                obtain ⟨rfl, rfl⟩ : p6 = some ⟨g6, 0, none⟩ ∧ c6 = cap6 := by cases e6; exact ⟨rfl, rfl⟩
                clear e5 e6 HA1
                by_cases hql : q < v.n
                · have hql' : (q : Int) < (v.n : Int) := by omega
                  obtain ⟨pv, ov, epv, hpl, hd0⟩ := Sts.at (hA.vst.good v hmem) hql
                  obtain ⟨g', cur', eg', _⟩ := hA.vst.flat v hmem _ epv
                  cases eg'
                  have hrep : (List.replicate v.n (mk v.i)).getD q [] = mk v.i := by simp [hql]
                  rw [hrep] at hd0
                  rw [epv] at hc5
                  have K5 := hide (hA.s1.lt g5 rfl)
                  have K6 := hide (hA.s2.lt g6 rfl)
                  have C5 := hide hc5
                  have C6 := hide hc6
                  have D0 := hide hd0
                  have KP := hide hpl
                  have HA2 := hide hA
                  clear hA hd0 hc6 hpl hrep hmem hv1 hv2 hv
                  go_wp2_with fail
                  refine rgb g5 V.length c5 g6 V.length c6 pv v.n v.c j q v.i (mk v.i) rfl rfl rfl _ _ (show 90 ≤ 90 from by decide) rfl rfl rfl rfl (fun _ W => Below wr.heap.size wr W) ?h0 ?hp hjl hql hjl ?l3 ?l6 ?l10 ?c11 ?_
                  case h0 => exact (Below.refl _ _).drew
                  case hp => exact fun _ _ _ _ hW => hW
                  case l3 =>
                    intro L W hW
                    rw [Nat.zero_add]
                    exact (World.cell?_of_block (hW.block g5 (unhide K5))).trans (unhide C5)
                  case l6 =>
                    intro L W hW
                    exact (World.cell?_of_block (hW.block pv (unhide KP))).trans (unhide D0)
                  case l10 =>
                    intro L W hW
                    rw [Nat.zero_add]
                    exact (World.cell?_of_block (hW.block g6 (unhide K6))).trans (unhide C6)
                  case c11 =>
                    intro L W hW _
                    refine (mark_any v.i W (by omega)).mono ?_
                    rintro e w2 ⟨rfl, hb⟩
                    exact ⟨rfl, hW.trans (hb.mono hW.size)⟩
                  intro L W _ hW
                  have HA3 := hide ((unhide HA2).keep hW)
                  clear hW HA2
                  rw [show (!decide (mk v.i = mk v.i)) = false from by simp]
                  simp only [put_list]
                  refine norm_frame (l := [_, _, _, _, _, _, _, _, _, _, _, _, _, _, _, _, _, _, _, _, _, _, _, _, _, _, _, _, _, _, _, _, _, _, _, _, _, _, _, _, _, _, _, _, _, _, _, _, _, _, _, _, _, _, _, _, _, _, _, _, _, _, _, _, _, _, _, _, _, _, _, _, _, _, _, _, _, _, _, _, _, _, _, _, _, _, _, _, _, _]) rfl rfl ?_
                  go_wp2
                  refine ⟨⟨q + 1, by omega, by go_num, unhide HA3⟩, ?_⟩
                  simp [Go.RowKit.intOf]; omega
                · have hdq : decide (q < v.n) = false := by simp; omega
                  have HA2 := hide hA
                  clear hA
                  go_wp2
                  refine ⟨⟨j + 1, by omega, by go_num, unhide HA2⟩, ?_⟩
                  simp [Go.RowKit.intOf]; omega
            · have hdj : decide (j < V.length) = false := by simp; omega
              have HB := hide hA.below
              clear hA HA
              go_wp2
              go_ret
              exact ⟨rfl, unhide HB⟩
end Go.Proofs.YtknlafgaagimjaaDoor
