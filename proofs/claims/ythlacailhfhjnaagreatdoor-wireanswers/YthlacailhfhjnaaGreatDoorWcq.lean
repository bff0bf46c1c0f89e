import Derived.Test.YthlacailhfhjnaaGreatDoorWcp
import Derived.Test.YthlacailhfhjnaaGreatDoorZzaj
namespace Go.Proofs.YthlacailhfhjnaaGreatDoor
open Go.RowKit Go.Lib
theorem pa_take {q : Ps} {s : Bs} {k : Nat} (hk : k < s.length) : pa q (s.drop k) = if (step opA q s[k]).2 ≠ 0 then .error (step opA q s[k]).2 else if (step opA q s[k]).1.st = 3 then .ok (⟨(step opA q s[k]).1.fs.s, (step opA q s[k]).1.hs, (step opA q s[k]).1.bd⟩, s.drop (k + 1)) else pa (step opA q s[k]).1 (s.drop (k + 1)) := by
  rw [List.drop_eq_getElem_cons hk]
  simp only [pa]
theorem clone_ba (X : ByteArray) (w : World) (hl : X.size ≤ 281474976710656) : Calls Tryz.prog 44 #[.string X] w fun e w' => e = .returned (.string X) ∧ Below w.heap.size w w' := by
  go_enter Tryz.func44, Tryz.ntmps44
  go_wp2_with (go_at_call 74; refine (Tryz.stringslite_Clone _ _ hl).mono ?_; rintro e w' ⟨rfl, hb⟩)
  go_ret
  exact ⟨rfl, hb⟩
/-- What ParseAnswer hands back. -/
def PaR (r : Except Nat (As × Bs)) (e : Ending) (w w' : World) : Prop :=
  match r with
  | .error n => e = .returned (.tuple #[.agg #[.int .i64 0, .slice none 0 0, S []], S [], .int .i64 n])
  | .ok (a, rest) => ∃ hv, e = .returned (.tuple #[.agg #[.int .i64 a.s, hv, S a.b], S rest, .int .i64 0]) ∧ w'.ownsRow 0 35 2 hv a.hs.length (cellsF a.hs) ∧ ∀ k, hv.ownBlock = some k → w.heap.size ≤ k
/-- What holds between two bytes of ParseAnswer. -/
structure Pai (P : Nat) (s : Bs) (w : World) (k : Nat) (wr : World) : Prop where
  ex : ∃ q O', pa p0 s = pa q (s.drop k) ∧ OkP q ∧ Par 69 P q O' wr ∧ (∀ j, O' j → w.heap.size < j) ∧ q.rd ≤ k
  ab : wr.heap[w.heap.size]? = some (.cells #[.int .i64 0, .slice none 0 0, S []] 26 (0, 0))
  bel : Below w.heap.size w wr
def WdB (c : Nat) (W3 Wa W4 : World) (L : Nat → Bool) (W : World) : Prop := (L (c + 1) = true → L c = true) ∧ W = if L (c + 1) = true then W4 else if L c = true then Wa else W3
theorem WdB.cell {c : Nat} {W3 Wa W4 : World} {L : Nat → Bool} {W : World} (h : WdB c W3 Wa W4 L W) {a : Addr} {v : Value} (h3 : W3.cell? a = some v) (ha : Wa.cell? a = some v) (h4 : W4.cell? a = some v) : W.cell? a = some v := by
  rw [h.2]
  split
  · exact h4
  · split
    · exact ha
    · exact h3
theorem WdB.pure {c : Nat} {W3 Wa W4 : World} {L : Nat → Bool} {W : World} (h : WdB c W3 Wa W4 L W) (i : Nat) (hi : i ≠ c ∧ i ≠ c + 1) : WdB c W3 Wa W4 (upd L i) W := by
  unfold WdB
  rw [upd_ne (j := c + 1) (by omega), upd_ne (j := c) (by omega)]
  exact h
theorem WdB.first {c : Nat} {W3 Wa W4 : World} {L : Nat → Bool} {W : World} (h : WdB c W3 Wa W4 L W) (hc : L c = false) : W = W3 ∧ WdB c W3 Wa W4 (upd L c) Wa := by
  have h1 : ¬ L (c + 1) = true := fun q => by rw [h.1 q] at hc; cases hc
  refine ⟨by rw [h.2, if_neg h1, if_neg (by rw [hc]; simp)], ?_⟩
  unfold WdB
  rw [upd_ne (j := c + 1) (by omega), upd_eq, if_neg h1]
  exact ⟨fun _ => rfl, rfl⟩
theorem WdB.second {c : Nat} {W3 Wa W4 : World} {L : Nat → Bool} {W : World} (h : WdB c W3 Wa W4 L W) (hc : L (c + 1) = false) (h2 : L c = true) : W = Wa ∧ WdB c W3 Wa W4 (upd L (c + 1)) W4 := by
  have h1 : ¬ L (c + 1) = true := fun q => by rw [q] at hc; cases hc
  refine ⟨by rw [h.2, if_neg h1, if_pos h2], ?_⟩
  unfold WdB
  rw [upd_eq, upd_ne (j := c) (by omega)]
  exact ⟨fun _ => h2, rfl⟩
theorem WdB.start {c : Nat} (W3 Wa W4 : World) : WdB c W3 Wa W4 (fun _ => false) W3 := ⟨(fun q => nomatch q), rfl⟩
/-- The worlds of a region with one call that makes memory, and stores behind it. -/
def WdC (W0 : World) (st : World → World) (L : Nat → Bool) (W : World) : Prop := (L 6 = true → L 5 = true) ∧ ∃ w6, Below W0.heap.size W0 w6 ∧ (L 5 = false → w6 = W0) ∧ W = if L 6 = true then st w6 else w6
theorem WdC.start (W0 : World) (st : World → World) : WdC W0 st (fun _ => false) W0 := ⟨(fun q => nomatch q), W0, Below.refl _ _, fun _ => rfl, rfl⟩
theorem WdC.pure {W0 : World} {st : World → World} {L : Nat → Bool} {W : World} (h : WdC W0 st L W) (i : Nat) (hi : i ≠ 5 ∧ i ≠ 6) : WdC W0 st (upd L i) W := by
  unfold WdC
  rw [upd_ne (j := 6) (by omega), upd_ne (j := 5) (by omega)]
  exact h
theorem WdC.call {W0 : World} {st : World → World} {L : Nat → Bool} {W : World} (h : WdC W0 st L W) (h5 : L 5 = false) : W = W0 ∧ ∀ w', Below W0.heap.size W0 w' → WdC W0 st (upd L 5) w' := by
  obtain ⟨h1, w6, h2, h3, h4⟩ := h
  have h6 : ¬ L 6 = true := fun q => by rw [h1 q] at h5; cases h5
  refine ⟨by rw [h4, if_neg h6, h3 h5], fun w' hb => ?_⟩
  unfold WdC
  rw [upd_ne (j := 6) (by omega), upd_eq]
  exact ⟨fun _ => rfl, w', hb, (fun q => nomatch q), by rw [if_neg h6]⟩
theorem WdC.store {W0 : World} {st : World → World} {L : Nat → Bool} {W : World} (h : WdC W0 st L W) (h6 : L 6 = false) (h5 : L 5 = true) : ∃ w6, Below W0.heap.size W0 w6 ∧ W = w6 ∧ WdC W0 st (upd L 6) (st w6) := by
  obtain ⟨h1, w6, h2, h3, h4⟩ := h
  refine ⟨w6, h2, by rw [h4, if_neg (by rw [h6]; simp)], ?_⟩
  unfold WdC
  rw [upd_ne (j := 5) (by omega), upd_eq]
  exact ⟨fun _ => h5, w6, h2, h3, by rw [if_pos rfl]⟩
theorem row3 {w : World} {P T : Nat} {a0 a1 a2 : Value} (h : w.heap[P]? = some (.cells #[a0, a1, a2] T (0, 0))) (b0 b1 b2 : Value) :
    (((w.setCell ⟨P, 0, none⟩ b0).setCell ⟨P, 1, none⟩ b1).setCell ⟨P, 2, none⟩ b2).heap[P]? = some (.cells #[b0, b1, b2] T (0, 0)) := by
  have q0 := heap_setCell_same _ P 0 _ T b0 h
  have q1 := heap_setCell_same _ P 1 _ T b1 q0
  have q2 := heap_setCell_same _ P 2 _ T b2 q1
  rw [q2]
  simp
set_option maxHeartbeats 16000000 in
set_option maxRecDepth 8000 in
theorem parseAnswer_any {B : Nat} (s : Bs) (w : World) (hE : Env B w) (hs : s.length ≤ 1000000000000) :
    Calls Tryz.prog 33 #[S s] w fun e w' => PaR (pa p0 s) e w w' ∧ Below w.heap.size w w' := by
  have HE := hide hE.mono
  have b0 := hide ((Below.refl w.heap.size w).alloc (Nat.le_refl _) (.cells #[.int .i64 0, .slice none 0 0, S []] 26))
  have a0 := hide (heap_alloc_new w (.cells #[.int .i64 0, .slice none 0 0, S []] 26))
  have z0 : Hid ((w.alloc (.cells #[.int .i64 0, .slice none 0 0, S []] 26)).heap.size = w.heap.size + 1) := hide (by simp)
  clear hE
  go_enter Tryz.func33, Tryz.ntmps33
  go_wp2_with fail
  generalize w.alloc (.cells #[.int .i64 0, .slice none 0 0, S []] 26) = W1 at *
  refine (newParser_any 69 W1).mono ?_
  rintro e w2 ⟨P, O, rfl, p2, n2, b2⟩
  have H0 := hide (show Pai P s w 0 w2 from ⟨⟨p0, O, by simp, okP0, p2, fun j hj => by have := n2 j hj; rw [unhide z0] at this; omega, Nat.zero_le _⟩, (b2.block _ (by rw [unhide z0]; omega)).trans (unhide a0), (unhide b0).trans (b2.mono (by rw [unhide z0]; omega))⟩)
  clear p2 n2 b2 b0 a0 z0
  go_wp2
  go_loopw [12] (fun i wr => ∃ k : Nat, k ≤ s.length ∧ i = .int .i64 k ∧ Pai P s w k wr) (fun i _ => s.length - (Go.RowKit.intOf i).toNat)
  case atStart => exact ⟨0, by omega, rfl, unhide H0⟩
  case round =>
    obtain ⟨k, hk, rfl, hi⟩ := hrel
    clear H0
    by_cases hlt : k < s.length
    · obtain ⟨⟨q, O', hf, hok, hpar, hO, hrd⟩, hab, hbel⟩ := hi
      have HT := hide (take69_any hpar ((unhide HE).below hbel) (fun j hj => Nat.le_of_lt (hO j hj)) hok (by omega) s[k])
      have hpt := pa_take (q := q) hlt
      have HON := hide (fun w2 (h : Only O' wr w2) => h.below hbel hbel.size (fun j hj => Nat.le_of_lt (hO j hj)))
      have HAB := hide (fun w2 (h : Only O' wr w2) => (h.block w.heap.size (lt_of_row hab) (fun q => by have := hO _ q; omega)).trans hab)
      have hsz : k < (ByteArray.mk s.toArray).size := by simpa [ByteArray.size] using hlt
      have hC : (ByteArray.mk s.toArray)[k]'hsz = s[k] := rfl
      have hki : (k : Int) < (s.length : Int) := by omega
      have HNEW := hide hO
      have hz := hbel.size
      by_cases hJ : (step opA q s[k]).2 = 0
      · rw [if_neg (by simpa using hJ)] at hpt
        have iJ : (((step opA q s[k]).2 : Nat) : Int) = 0 := by omega
        by_cases h3 : (step opA q s[k]).1.st = 3
        · rw [if_pos h3] at hpt
          have HPA := hide (hf.trans hpt)
          have i3 : (((step opA q s[k]).1.st : Nat) : Int) = 3 := by omega
          have HXE : Hid ((ByteArray.mk s.toArray).extract (k + 1) s.length = ⟨(s.drop (k + 1)).toArray⟩) := hide (by rw [extract_eq, List.take_of_length_le (by simp)])
          have HJ := hide hJ
          clear hf hok hpar hO hrd hab hbel hpt hJ
          generalize s[k] = b at *
          generalize step opA q b = J at *
          go_wp2_with fail
          refine (unhide HT).mono ?_
          rintro e w3 ⟨rfl, ht⟩
          obtain ⟨nx, pa, ca, hp3, hn3⟩ : ∃ (nx : Value) (pa : Option Addr) (ca : Nat), PAt 69 P J.1 nx (.slice pa J.1.hs.length ca) w3 ∧ ∀ j, (Value.slice pa J.1.hs.length ca).ownBlock = some j → w.heap.size ≤ j := by
            obtain ⟨O2, ⟨⟨nx, hv, a1, a2, _⟩, _⟩, a3⟩ := ht.ok (unhide HJ)
            obtain ⟨pa, ca, rfl⟩ := owns_form a1.hrow
            refine ⟨nx, pa, ca, a1, fun j hj => ?_⟩
            rcases a3 j (a2 j hj) with q | q
            · exact Nat.le_of_lt (unhide HNEW j q)
            · omega
          have hab3 := unhide HAB w3 ht.only
          have hbel3 := unhide HON w3 ht.only
          have hb3 : bdv J.1 = J.1.bd := by unfold bdv; rw [if_pos (by omega)]
          have c03 : w3.cell? ⟨P, 0, none⟩ = some (.int .i64 J.1.st) := hp3.cell 0
          clear ht HT HAB HON
          go_wp2
          have b30 : Below w3.heap.size w3 w3.drew := (Below.refl _ _).drew
          have b3a : Below w3.heap.size w3 (w3.drew.alloc (.cells #[.int .i64 0, .slice none 0 0, S []] 26)) := b30.alloc (Nat.le_refl _) _
          have b3s : Below w3.heap.size w3 ((((w3.drew.alloc (.cells #[.int .i64 0, .slice none 0 0, S []] 26)).setCell ⟨w3.heap.size, 0, none⟩ (.int .i64 J.1.fs.s)).setCell ⟨w3.heap.size, 1, none⟩ (.slice pa J.1.hs.length ca)).setCell ⟨w3.heap.size, 2, none⟩ (S J.1.bd)) := ((b3a.setCell (Nat.le_refl _) _).setCell (Nat.le_refl _) _).setCell (Nat.le_refl _) _
          have fa : (w3.drew.alloc (.cells #[.int .i64 0, .slice none 0 0, S []] 26)).heap[w3.heap.size]? = some (.cells #[.int .i64 0, .slice none 0 0, S []] 26 (0, 0)) := heap_alloc_new w3.drew _
          have fs := hide (row3 fa (.int .i64 J.1.fs.s) (.slice pa J.1.hs.length ca) (S J.1.bd))
          have HP3 := hide hp3
          have c9 : ∀ W, Below w3.heap.size w3 W → W.cell? ⟨P, 9, none⟩ = some (S J.1.bd) := fun W b => ((hp3.below b).cell 9).trans (by show some (S (bdv J.1)) = _; rw [hb3])
          refine rpa P w3.heap.size J.1.hs.length ca J.1.fs.s pa J.1.bd rfl rfl rfl _ _ (show 43 ≤ 51 from by decide) rfl (WdB 14 w3.drew (w3.drew.alloc (.cells #[.int .i64 0, .slice none 0 0, S []] 26)) ((((w3.drew.alloc (.cells #[.int .i64 0, .slice none 0 0, S []] 26)).setCell ⟨w3.heap.size, 0, none⟩ (.int .i64 J.1.fs.s)).setCell ⟨w3.heap.size, 1, none⟩ (.slice pa J.1.hs.length ca)).setCell ⟨w3.heap.size, 2, none⟩ (S J.1.bd))) ?_ ?_ ?_ ?_ ?_ ?_ ?_ ?_
          · exact WdB.start _ _ _
          · exact fun i hi L W hW => hW.pure i (by simp at hi; omega)
          · exact fun L W hW => hW.cell ((hp3.below b30).cell 6) ((hp3.below b3a).cell 6) ((hp3.below b3s).cell 6)
          · exact fun L W hW => hW.cell ((hp3.below b30).cell 7) ((hp3.below b3a).cell 7) ((hp3.below b3s).cell 7)
          · exact fun L W hW => hW.cell (c9 _ b30) (c9 _ b3a) (c9 _ b3s)
          · intro L W hW h
            obtain ⟨e, q⟩ := hW.first h
            subst e
            exact ⟨q, rfl⟩
          · intro L W hW h _ h2
            obtain ⟨e, q⟩ := hW.second h h2
            subst e
            exact ⟨q, fa⟩
          intro L W hall hW
          have hW4 := hW.2
          rw [if_pos (hall 15 (by decide))] at hW4
          subst hW4
          simp only [Act.put, List.setIfInBounds_toArray, List.set_cons_succ, List.set_cons_zero]
          have hF := unhide fs
          have hA := (b3s.block w.heap.size (lt_of_row hab3)).trans hab3
          have hR := hide ((hp3.below b3s).hrow)
          have hB5 := hide (hbel3.trans (b3s.mono hbel3.size))
          have hzz := hbel3.size
          have hAF : w.heap.size < w3.heap.size := lt_of_row hab3
          have hs5 : w3.heap.size < ((((w3.drew.alloc (.cells #[.int .i64 0, .slice none 0 0, S []] 26)).setCell ⟨w3.heap.size, 0, none⟩ (.int .i64 J.1.fs.s)).setCell ⟨w3.heap.size, 1, none⟩ (.slice pa J.1.hs.length ca)).setCell ⟨w3.heap.size, 2, none⟩ (S J.1.bd)).heap.size := lt_of_row hF
          clear hall hW fa b30 b3a b3s c9 hp3 hab3 hbel3 HP3 c03 fs
          generalize ((((w3.drew.alloc (.cells #[.int .i64 0, .slice none 0 0, S []] 26)).setCell ⟨w3.heap.size, 0, none⟩ (.int .i64 J.1.fs.s)).setCell ⟨w3.heap.size, 1, none⟩ (.slice pa J.1.hs.length ca)).setCell ⟨w3.heap.size, 2, none⟩ (S J.1.bd)) = W5 at *
          have f0 : W5.cell? ⟨w3.heap.size, 0, none⟩ = some (.int .i64 J.1.fs.s) := cell_of_row W5 _ 0 _ 26 (0, 0) hF
          have f1 : W5.cell? ⟨w3.heap.size, 1, none⟩ = some (.slice pa J.1.hs.length ca) := cell_of_row W5 _ 1 _ 26 (0, 0) hF
          have f2 : W5.cell? ⟨w3.heap.size, 2, none⟩ = some (S J.1.bd) := cell_of_row W5 _ 2 _ 26 (0, 0) hF
          have d0 : W5.cell? ⟨w.heap.size, 0, none⟩ = some (.int .i64 0) := cell_of_row W5 _ 0 _ 26 (0, 0) hA
          have d1 : W5.cell? ⟨w.heap.size, 1, none⟩ = some (.slice none 0 0) := cell_of_row W5 _ 1 _ 26 (0, 0) hA
          have d2 : W5.cell? ⟨w.heap.size, 2, none⟩ = some (S []) := cell_of_row W5 _ 2 _ 26 (0, 0) hA
          have hk1 : (k : Int) + 1 ≤ (s.length : Int) := by omega
          have HF := hide hF
          have HA := hide hA
          clear hF hA
          go_wp2
          refine rpb w.heap.size w3.heap.size J.1.hs.length ca k J.1.fs.s pa J.1.bd s rfl rfl rfl _ _ (show 49 ≤ 51 from by decide) rfl rfl rfl rfl (WdC W5.drew (fun w6 => (((w6.setCell ⟨w.heap.size, 0, none⟩ (.int .i64 J.1.fs.s)).setCell ⟨w.heap.size, 1, none⟩ (.slice pa J.1.hs.length ca)).setCell ⟨w.heap.size, 2, none⟩ (S J.1.bd)))) ?_ ?_ ?_ ⟨by omega, by omega⟩ ⟨by omega, by omega⟩ ?_ ?_ ?_
          · exact WdC.start _ _
          · exact fun i hi L W hW => hW.pure i (by simp at hi; omega)
          · intro L W hW
            obtain ⟨_, w6, h1, _, h3⟩ := hW
            have hF6 := (h1.block w3.heap.size hs5).trans (unhide HF)
            have hne : w3.heap.size ≠ w.heap.size := by omega
            have hFW : W.heap[w3.heap.size]? = some (.cells #[.int .i64 J.1.fs.s, .slice pa J.1.hs.length ca, S J.1.bd] 26 (0, 0)) := by
              rw [h3]
              split
              · rw [heap_setCell_other _ _ _ _ hne, heap_setCell_other _ _ _ _ hne, heap_setCell_other _ _ _ _ hne]; exact hF6
              · exact hF6
            exact ⟨cell_of_row W _ 0 _ 26 (0, 0) hFW, cell_of_row W _ 1 _ 26 (0, 0) hFW, cell_of_row W _ 2 _ 26 (0, 0) hFW⟩
          · intro L W hW h5
            obtain ⟨e, q⟩ := hW.call h5
            subst e
            refine (clone_ba ⟨(s.drop (k + 1)).toArray⟩ W5.drew (by rw [ba_size]; simp; omega)).mono ?_
            rintro e w6 ⟨rfl, b6⟩
            exact ⟨rfl, q w6 b6⟩
          · intro L W hW h6 _ h5
            obtain ⟨w6, h1, e, q⟩ := hW.store h6 h5
            subst e
            exact ⟨q, (h1.block w.heap.size (Nat.lt_trans hAF hs5)).trans (unhide HA)⟩
          intro L W hall hW
          obtain ⟨_, w6, h1, _, h3⟩ := hW
          rw [if_pos (hall 6 (by decide))] at h3
          subst h3
          have hA6 := (h1.block w.heap.size (Nat.lt_trans hAF hs5)).trans (unhide HA)
          have hA7 := row3 hA6 (.int .i64 J.1.fs.s) (.slice pa J.1.hs.length ca) (S J.1.bd)
          have b5d : Below W5.heap.size W5 W5.drew := (Below.refl _ _).drew
          have b6 := hide ((unhide hB5).trans ((b5d.trans h1).mono (by omega)))
          have hR6 := hide (owns_same (unhide hR) (fun j hj => (by
            obtain ⟨cs, q⟩ := owns_lt (unhide hR) j hj
            have hjA : j ≠ w.heap.size := fun e => by rw [e, unhide HA] at q; simp at q
            rw [heap_setCell_other _ _ _ _ hjA, heap_setCell_other _ _ _ _ hjA, heap_setCell_other _ _ _ _ hjA]
            exact h1.block j (lt_of_row q) : (((w6.setCell ⟨w.heap.size, 0, none⟩ (.int .i64 J.1.fs.s)).setCell ⟨w.heap.size, 1, none⟩ (.slice pa J.1.hs.length ca)).setCell ⟨w.heap.size, 2, none⟩ (S J.1.bd)).heap[j]? = W5.heap[j]?)))
          have e0 : (((w6.setCell ⟨w.heap.size, 0, none⟩ (.int .i64 J.1.fs.s)).setCell ⟨w.heap.size, 1, none⟩ (.slice pa J.1.hs.length ca)).setCell ⟨w.heap.size, 2, none⟩ (S J.1.bd)).cell? ⟨w.heap.size, 0, none⟩ = some (.int .i64 J.1.fs.s) := cell_of_row _ _ 0 _ 26 (0, 0) hA7
          have e1 : (((w6.setCell ⟨w.heap.size, 0, none⟩ (.int .i64 J.1.fs.s)).setCell ⟨w.heap.size, 1, none⟩ (.slice pa J.1.hs.length ca)).setCell ⟨w.heap.size, 2, none⟩ (S J.1.bd)).cell? ⟨w.heap.size, 1, none⟩ = some (.slice pa J.1.hs.length ca) := cell_of_row _ _ 1 _ 26 (0, 0) hA7
          have e2 : (((w6.setCell ⟨w.heap.size, 0, none⟩ (.int .i64 J.1.fs.s)).setCell ⟨w.heap.size, 1, none⟩ (.slice pa J.1.hs.length ca)).setCell ⟨w.heap.size, 2, none⟩ (S J.1.bd)).cell? ⟨w.heap.size, 2, none⟩ = some (S J.1.bd) := cell_of_row _ _ 2 _ 26 (0, 0) hA7
          have b7 : Hid (Below w.heap.size w (((w6.setCell ⟨w.heap.size, 0, none⟩ (.int .i64 J.1.fs.s)).setCell ⟨w.heap.size, 1, none⟩ (.slice pa J.1.hs.length ca)).setCell ⟨w.heap.size, 2, none⟩ (S J.1.bd))) := hide ((((unhide b6).setCell (Nat.le_refl _) _).setCell (Nat.le_refl _) _).setCell (Nat.le_refl _) _)
          clear hA6 hA7 h1 hall b6
          simp only [Act.put, List.setIfInBounds_toArray, List.set_cons_succ, List.set_cons_zero]
          generalize (((w6.setCell ⟨w.heap.size, 0, none⟩ (.int .i64 J.1.fs.s)).setCell ⟨w.heap.size, 1, none⟩ (.slice pa J.1.hs.length ca)).setCell ⟨w.heap.size, 2, none⟩ (S J.1.bd)) = W7 at *
          go_wp2
          refine bodyPost_ret (v := .tuple #[.agg #[.int .i64 J.1.fs.s, .slice pa J.1.hs.length ca, S J.1.bd], S (s.drop (k + 1)), .int .i64 0]) (by simp [results, Tryz.results33, go_sem, e0, e1, e2]) rfl ⟨?_, unhide b7⟩
          rw [unhide HPA]
          exact ⟨_, rfl, unhide hR6, hn3⟩
        · rw [if_neg h3] at hpt
          have hsr := step_rd opA q s[k] hJ (by have := hok.1; omega)
          have HGO := hide (fun w2 (ht : Tk 69 P (step opA q s[k]) O' wr w2) => (by
            obtain ⟨O2, a1, a2⟩ := ht.ok hJ
            exact ⟨⟨(step opA q s[k]).1, O2, hf.trans hpt, step_ok opA q _ hok hJ h3, a1, fun j hj => by
              rcases a2 j hj with q | q
              · exact hO j q
              · have := lt_of_row hab; omega, by omega⟩, unhide HAB w2 ht.only, unhide HON w2 ht.only⟩ : Pai P s w (k + 1) w2))
          have i3 : ¬ (((step opA q s[k]).1.st : Nat) : Int) = 3 := by omega
          clear hf hok hpar hO hrd hab hbel hpt hJ h3 hsr
          generalize s[k] = b at *
          generalize step opA q b = J at *
          go_wp2_with fail
          refine (unhide HT).mono ?_
          rintro e w3 ⟨rfl, ht⟩
          have hgo := unhide HGO w3 ht
          have c03 : w3.cell? ⟨P, 0, none⟩ = some (.int .i64 J.1.st) := by
            obtain ⟨p', nx', hv', a1⟩ : ∃ p' nx' hv', PAt 69 P p' nx' hv' w3 ∧ p' = J.1 := by
              obtain ⟨O2, ⟨⟨nx, hv, a, _⟩, _⟩, _⟩ := ht.ok (by omega)
              exact ⟨_, nx, hv, a, rfl⟩
            rw [← a1.2]
            exact a1.1.cell 0
          have HG := hide hgo
          clear hgo ht
          go_wp2
          refine ⟨⟨k + 1, by omega, by go_num, unhide HG⟩, ?_⟩
          simp [Go.RowKit.intOf]; omega
      · rw [if_pos hJ] at hpt
        have iJ : ¬ (((step opA q s[k]).2 : Nat) : Int) = 0 := by omega
        have HPA := hide (hf.trans hpt)
        clear hf hok hpar hO hrd hab hbel hpt hJ
        generalize s[k] = b at *
        generalize step opA q b = J at *
        go_wp2_with fail
        refine (unhide HT).mono ?_
        rintro e w3 ⟨rfl, ht⟩
        have hb3 := unhide HAB w3 ht.only
        have HB3 := hide (unhide HON w3 ht.only)
        have d0 : w3.cell? ⟨w.heap.size, 0, none⟩ = some (.int .i64 0) := cell_of_row w3 _ 0 _ 26 (0, 0) hb3
        have d1 : w3.cell? ⟨w.heap.size, 1, none⟩ = some (.slice none 0 0) := cell_of_row w3 _ 1 _ 26 (0, 0) hb3
        have d2 : w3.cell? ⟨w.heap.size, 2, none⟩ = some (S []) := cell_of_row w3 _ 2 _ 26 (0, 0) hb3
        have dz : ∀ j, w3.frozen? ⟨w.heap.size, j, none⟩ = false := fun j => frozen_of_row w3 _ j _ 26 hb3
        clear ht hb3
        go_wp2
        refine bodyPost_ret (v := .tuple #[.agg #[.int .i64 0, .slice none 0 0, S []], S [], .int .i64 J.2]) (by simp [results, Tryz.results33, go_sem, d0, d1, d2]) rfl ⟨?_, ?_⟩
        · rw [unhide HPA]
          rfl
        · exact (((unhide HB3).setCell (Nat.le_refl _) _).setCell (Nat.le_refl _) _).setCell (Nat.le_refl _) _
    · have hd : decide (k < s.length) = false := by simp; omega
      obtain ⟨⟨q, O', hf, _⟩, hab, hbel⟩ := hi
      have HPA := hide (show pa p0 s = .error 56 by rw [hf, List.drop_eq_nil_of_le (by omega)]; rfl)
      have HB3 := hide hbel
      have d0 : wr.cell? ⟨w.heap.size, 0, none⟩ = some (.int .i64 0) := cell_of_row wr _ 0 _ 26 (0, 0) hab
      have d1 : wr.cell? ⟨w.heap.size, 1, none⟩ = some (.slice none 0 0) := cell_of_row wr _ 1 _ 26 (0, 0) hab
      have d2 : wr.cell? ⟨w.heap.size, 2, none⟩ = some (S []) := cell_of_row wr _ 2 _ 26 (0, 0) hab
      have dz : ∀ j, wr.frozen? ⟨w.heap.size, j, none⟩ = false := fun j => frozen_of_row wr _ j _ 26 hab
      clear hf hab hbel
      go_wp2
      refine bodyPost_ret (v := .tuple #[.agg #[.int .i64 0, .slice none 0 0, S []], S [], .int .i64 56]) (by simp [results, Tryz.results33, go_sem, d0, d1, d2]) rfl ⟨?_, ?_⟩
      · rw [unhide HPA]
        rfl
      · exact (((unhide HB3).setCell (Nat.le_refl _) _).setCell (Nat.le_refl _) _).setCell (Nat.le_refl _) _
end Go.Proofs.YthlacailhfhjnaaGreatDoor
