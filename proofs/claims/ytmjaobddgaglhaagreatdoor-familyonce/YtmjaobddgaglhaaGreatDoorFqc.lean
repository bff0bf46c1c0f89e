import Derived.Test.YtmjaobddgaglhaaGreatDoorFqb
import Derived.Test.YtmjaobddgaglhaaGreatDoorFmn
import Derived.BigQuiet
/- Is all as the book says? -/
namespace Go.Proofs.YtmjaobddgaglhaaGreatDoor
open Go.RowKit
set_option maxHeartbeats 8000000
set_option maxRecDepth 8000
def ri5T : List (Op × Option Tmp × Option (Nat × Bool)) := [
  (.move (.tmp 0), some 33, none),
  (.nilCheck (.tmp 33), some 34, none),
  (.fieldAddr 64 (.tmp 34) 0, some 35, none),
  (.load 24 (.tmp 35), some 36, none),
  (.move (.tmp 0), some 37, none),
  (.nilCheck (.tmp 37), some 38, none),
  (.fieldAddr 64 (.tmp 38) 1, some 39, none),
  (.load 61 (.tmp 39), some 40, none),
  (.move (.tmp 10), some 41, none),
  (.indexAddr 61 (.tmp 40) (.tmp 41), some 42, none),
  (.load 26 (.tmp 42), some 43, none),
  (.move (.tmp 1), some 44, none),
  (.call { callee := .value (.func 18), args := #[(.tmp 36), (.tmp 43), (.tmp 44)], argTypes := #[24, 26, 3] }, some 45, none),
  (.alloc 40, some 11, none),
  (.store 40 (.tmp 11) (.tmp 45), none, none)]
def ri5V (P gl n cap k : Nat) (F T : Array Value) (now : Int) (V0 : Value → Array Value) (m : Nat) (c : (Option Addr × Nat) × Nat) : Nat → Value
  | 0 => ptr P
  | 1 => ptr P
  | 2 => .pointer (some ⟨P, 0, none⟩)
  | 3 => .agg F
  | 4 => ptr P
  | 5 => ptr P
  | 6 => .pointer (some ⟨P, 14, none⟩)
  | 7 => .slice (some ⟨gl, 0, none⟩) n cap
  | 8 => I k
  | 9 => .pointer (some ⟨gl, k * 9, none⟩)
  | 10 => .agg T
  | 11 => I now
  | 12 => .agg (V0 (.slice c.1.1 m c.1.2))
  | 13 => ptr c.2
  | 14 => undef
  | _ => undef
theorem ri5V_ne {P gl n cap k : Nat} {F T : Array Value} {now : Int} {V0 : Value → Array Value} {m : Nat} {a a' : Option Addr} {p p' x : Nat} {j : Nat} (h12 : j ≠ 12) : ri5V P gl n cap k F T now V0 m ((a, p), x) j = ri5V P gl n cap k F T now V0 m ((a', p'), x) j := by
  match j, h12 with
  | 0, _ => rfl
  | 1, _ => rfl
  | 2, _ => rfl
  | 3, _ => rfl
  | 4, _ => rfl
  | 5, _ => rfl
  | 6, _ => rfl
  | 7, _ => rfl
  | 8, _ => rfl
  | 9, _ => rfl
  | 10, _ => rfl
  | 11, _ => rfl
  | 12, h => exact absurd rfl h
  | 13, _ => rfl
  | 14, _ => rfl
  | (q + 15), _ => rfl
theorem ri5V_na {P gl n cap k : Nat} {F T : Array Value} {now : Int} {V0 : Value → Array Value} {m : Nat} {a : Option Addr} {p x x' : Nat} {j : Nat} (h13 : j ≠ 13) : ri5V P gl n cap k F T now V0 m ((a, p), x) j = ri5V P gl n cap k F T now V0 m ((a, p), x') j := by
  match j, h13 with
  | 0, _ => rfl
  | 1, _ => rfl
  | 2, _ => rfl
  | 3, _ => rfl
  | 4, _ => rfl
  | 5, _ => rfl
  | 6, _ => rfl
  | 7, _ => rfl
  | 8, _ => rfl
  | 9, _ => rfl
  | 10, _ => rfl
  | 11, _ => rfl
  | 12, _ => rfl
  | 13, h => exact absurd rfl h
  | 14, _ => rfl
  | (q + 15), _ => rfl
structure WTe (Gd : World → Value → Prop) (W0 : World) (n : Nat) (Z0 : Array Value) (V0 : Value → Array Value) (c : (Option Addr × Nat) × Nat) (L : Nat → Bool) (W : World) : Prop where
  be : Below W0.heap.size W0 W
  own : L 12 = true → Gd W (.slice c.1.1 n c.1.2)
  b0 : L 13 = true → W0.heap.size ≤ c.2 ∧ W.heap[c.2]? = some (.cells (if L 14 then V0 (.slice c.1.1 n c.1.2) else Z0) 40 (0, 0))
  s0 : L 14 = true → L 13 = true ∧ L 12 = true
theorem WTe.pure {Gd : World → Value → Prop} {W0 : World} {n : Nat} {Z0 : Array Value} {V0 : Value → Array Value} {c : (Option Addr × Nat) × Nat} {L : Nat → Bool} {W : World} (h : WTe Gd W0 n Z0 V0 c L W) (i : Nat) (h12 : i ≠ 12) (h13 : i ≠ 13) (h14 : i ≠ 14) : WTe Gd W0 n Z0 V0 c (upd L i) W :=
  ⟨h.be, (fun e => h.own (by rw [upd_ne (fun q => h12 q.symm)] at e; exact e)), (fun e => by rw [upd_ne (fun q => h13 q.symm)] at e; rw [upd_ne (fun q => h14 q.symm)]; exact h.b0 e), (fun e => by rw [upd_ne (fun q => h14 q.symm)] at e; exact ⟨upd_of (h.s0 e).1, upd_of (h.s0 e).2⟩)⟩
theorem WTe.call {Gd : World → Value → Prop} {W0 : World} {n : Nat} {Z0 : Array Value} {V0 : Value → Array Value} {c : (Option Addr × Nat) × Nat} {L : Nat → Bool} {W : World} {W2 : World} (hG : ∀ W W2 v, Gd W v → Below W.heap.size W W2 → Gd W2 v) (h : WTe Gd W0 n Z0 V0 c L W) (hb : Below W.heap.size W W2) : WTe Gd W0 n Z0 V0 c L W2 :=
  ⟨h.be.trans (hb.mono h.be.size), (fun e => hG _ _ _ (h.own e) hb), (fun e => ⟨(h.b0 e).1, (hb.block _ (lt_of_row (h.b0 e).2)).trans (h.b0 e).2⟩), h.s0⟩
theorem WTe.got {Gd : World → Value → Prop} {W0 : World} {n : Nat} {Z0 : Array Value} {V0 : Value → Array Value} {c : (Option Addr × Nat) × Nat} {L : Nat → Bool} {W : World} {W2 : World} (hG : ∀ W W2 v, Gd W v → Below W.heap.size W W2 → Gd W2 v) (h : WTe Gd W0 n Z0 V0 c L W) (hK : L 12 = false) {a : Option Addr} {cap : Nat} (ho : Gd W2 (.slice a n cap)) (hb : Below W.heap.size W W2) : WTe Gd W0 n Z0 V0 ((a, cap), c.2) (upd L 12) W2 := by
  have h2 := h.call hG hb
  have f0 : L 14 = false := by cases q : L 14 with | false => rfl | true => rw [(h.s0 q).2] at hK; cases hK
  exact ⟨h2.be, (fun _ => ho), (fun e => by rw [upd_ne (by decide)] at e; have q := h2.b0 e; rw [f0] at q; rw [upd_ne (by decide), f0]; exact q), (fun e => by rw [upd_ne (by decide), f0] at e; cases e)⟩
theorem WTe.al0 {Gd : World → Value → Prop} {W0 : World} {n : Nat} {Z0 : Array Value} {V0 : Value → Array Value} {c : (Option Addr × Nat) × Nat} {L : Nat → Bool} {W : World} (hG : ∀ W W2 v, Gd W v → Below W.heap.size W W2 → Gd W2 v) (h : WTe Gd W0 n Z0 V0 c L W) (hL : L 13 = false) : WTe Gd W0 n Z0 V0 (c.1, W.heap.size) (upd L 13) (W.alloc (.cells Z0 40)) := by
  have h2 := h.call hG ((Below.refl _ W).alloc (Nat.le_refl _) (.cells Z0 40))
  have f0 : L 14 = false := by cases q : L 14 with | false => rfl | true => rw [(h.s0 q).1] at hL; cases hL
  exact ⟨h2.be, (fun e => h2.own (by rw [upd_ne (by decide)] at e; exact e)), (fun _ => ⟨h.be.size, by rw [upd_ne (by decide), f0]; exact heap_alloc_new _ _⟩), (fun e => by rw [upd_ne (by decide), f0] at e; cases e)⟩
theorem WTe.st0 {Gd : World → Value → Prop} {W0 : World} {n : Nat} {Z0 : Array Value} {V0 : Value → Array Value} {c : (Option Addr × Nat) × Nat} {L : Nat → Bool} {W : World} (hG2 : ∀ W v k cs t vs, Gd W v → W.heap[k]? = some (.cells cs t (0, 0)) → t ≠ 9 → Gd (W.setRow k vs) v) (h : WTe Gd W0 n Z0 V0 c L W) (hA : L 13 = true) (hK : L 12 = true) : WTe Gd W0 n Z0 V0 c (upd L 14) (W.setRow (c.2) (V0 (.slice c.1.1 n c.1.2))) := by
  obtain ⟨k1, k2⟩ := h.b0 hA
  exact ⟨bel_set h.be _ _ k1 h.be.size, (fun e => hG2 _ _ _ _ _ _ (h.own (by rw [upd_ne (by decide)] at e; exact e)) k2 (by decide)), (fun _ => ⟨k1, by rw [upd_eq]; exact setRow_row k2⟩), (fun _ => ⟨upd_of hA, upd_of hK⟩)⟩
theorem right9_any (B P : Nat) (cr us idl ab gr ge tk st en : Int) (l : List Tk) (sp : List Int) (ed : Bool) (u9 : Int) (v9 vl vs : Value) (now en9 fr : Int) (w : World) (h : BM B w P cr us idl ab gr ge tk st en l sp ed u9 v9 vl vs) (hl : l.length ≤ 1000) (h0 : 0 < l.length) (hnb : 0 ≤ now ∧ now ≤ 1099511627776) (hfr : 0 ≤ fr ∧ fr ≤ 1099511627776) (hJ : ∀ k t, l[k]? = some t → (jdg 7 tApp tAnn [tRead] cr us idl ab gr ge tk st en 0 t.ti 7 t.tg t.ha t.mi t.sp t.at9 t.ne t.se now = 1 ↔ ((!ed && decide (now < en9)) = true ∧ k + 1 = l.length))) (hE : (!ed && decide (now < en9)) = true → endV cr us idl ab st en = en9 ∧ ge = l.length) (ho1 : ovF cr us idl ab st en (now - fr + 1) now = false) (ho2 : ovF cr us idl ab st en (now - fr) now = !(!ed && decide (now < en9))) : Calls Tryz.prog 31 #[ptr P, I now, I en9, I fr] w fun e w' => e = .returned (.bool true) ∧ Below w.heap.size w w' := by
  obtain ⟨gl, cl, _, rfl, _, _, _, _⟩ := row_form h.tok (by omega)
  obtain ⟨b9, q9, e9⟩ : ∃ a9 q9, v9 = .slice a9 1 q9 := by
    obtain ⟨a, c, e⟩ := h.own.form
    exact ⟨a, c, e⟩
  have hbs : B ≤ w.heap.size := by have := lt_of_row h.row; have := h.hP; omega
  have XT : Hid (∀ (k : Nat) (t : Tk) (W : World), l[k]? = some t → Below w.heap.size w W → Calls Tryz.prog 18 #[.agg #[I 7, S tApp, S tAnn, v9, I cr, I us, I idl, I ab, I gr, I ge, I tk, I st, I en, I 0], .agg #[I t.ti, I 7, I t.tg, S t.ha, I t.mi, .bool t.sp, I t.at9, I t.ne, S t.se], I now] W (OutT W (jdg 7 tApp tAnn [tRead] cr us idl ab gr ge tk st en 0 t.ti 7 t.tg t.ha t.mi t.sp t.at9 t.ne t.se now) [tRead] (fun v => #[.bool true, S tApp, S tAnn, v, I 7, I t.mi, I (endV cr us idl ab st en), I ge]))) := hide (fun k t W _ hb => by
    have hs : OwnS B W v9 [tRead] := h.own.below (hb) (Nat.le_trans (Nat.le_refl _) (by first | exact Nat.le_refl _ | exact hbs))
    subst e9
    exact tell_any 7 tApp tAnn b9 q9 [tRead] cr us idl ab gr ge tk st en 0 t.ti 7 t.tg t.ha t.mi t.sp t.at9 t.ne t.se now W (by decide) (by decide) hs.sts (by decide) lns_read)
  have XO : Hid (∀ (re : Int) (W : World), Calls Tryz.prog 12 #[.agg #[I 7, S tApp, S tAnn, v9, I cr, I us, I idl, I ab, I gr, I ge, I tk, I st, I en, I 0], I re, I now] W fun e w' => e = .returned (.bool (ovF cr us idl ab st en re now)) ∧ Below W.heap.size W w') := hide (fun re W => by
    subst e9
    exact fover_any 7 tApp tAnn b9 q9 [tRead] cr us idl ab gr ge tk st en 0 re now W)
  have HBM := hide h
  have HJ := hide hJ
  have HE := hide hE
  have HO1 := hide ho1
  have HO2 := hide ho2
  have hPr := h.row
  have HAL : Hid (∀ A, A = (!ed && decide (now < en9)) → True) := hide (fun _ _ => trivial)
  clear hJ hE ho1 ho2 h e9 HAL
  obtain ⟨nb1, nb2⟩ := hnb
  obtain ⟨fr1, fr2⟩ := hfr
  obtain ⟨A, hA⟩ : ∃ A, A = (!ed && decide (now < en9)) := ⟨_, rfl⟩
  rw [← hA] at HJ HE HO2
  have c16 : w.cell? ⟨P, 16, none⟩ = some (.bool ed) := cellr hPr rfl
  have c14 : w.cell? ⟨P, 14, none⟩ = some (.slice (some ⟨gl, 0, none⟩) l.length cl) := cellr hPr rfl
  have HA := hide hA
  have HPr := hide hPr
  clear hA hPr
  obtain ⟨D, hD⟩ : ∃ D, D = decide (now < en9) := ⟨_, rfl⟩
  generalize hn : l.length = n at *
  have HN := hide hn
  clear hn
  go_enter Tryz.func31, Tryz.ntmps31
  have HA2 : Hid (A = (!ed && D)) := hide (by rw [hD]; exact unhide HA)
  clear HA
  have hD2 : decide (now < en9) = D := hD.symm
  clear hD
  cases ed
  · skip
    have hA3 : A = D := unhide HA2
    subst hA3
    clear HA2
    go_wp2
    go_loopw [10] (fun i wr => ∃ k : Nat, k ≤ n ∧ i = .int .i64 k ∧ Below w.heap.size w wr) (fun i _ => n - (Go.RowKit.intOf i).toNat)
    case atStart => exact ⟨0, by omega, rfl, Below.refl _ _⟩
    case round =>
      clear c14 c16
      obtain ⟨k, hk, rfl, hb⟩ := hrel
      have hrow := (hb.block P (lt_of_row (unhide HPr))).trans (unhide HPr)
      have HB := hide hb
      have c14 : wr.cell? ⟨P, 14, none⟩ = some (.slice (some ⟨gl, 0, none⟩) n cl) := cellr hrow rfl
      have HRow := hide hrow
      clear hb hrow
      by_cases hlt : k < n
      · have hlt' : (k : Int) < (n : Int) := by omega
        obtain ⟨t, ht⟩ : ∃ t, l[k]? = some t := ⟨_, List.getElem?_eq_getElem (by have := unhide HN; omega)⟩
        have hXT := (fun W (hb : Below wr.heap.size wr W) => unhide XT k t W ht ((unhide HB).trans (hb.mono (unhide HB).size)))
        have hj := unhide HJ k t ht
        obtain ⟨gl2, cl2, curT, eT, _, hgT, hszT, htkT⟩ := row_form (unhide HBM).tok (by have := unhide HN; omega)
        obtain ⟨rfl, hnl, rfl⟩ : gl = gl2 ∧ n = l.length ∧ cl = cl2 := by simpa using eT
        clear hnl
        have hpart := tok_part htkT ht
        have hgW := ((unhide HB).block gl (lt_of_row hgT)).trans hgT
        clear hgT eT htkT hszT
        obtain ⟨ti, tg, ha, mi, sp9, at9, ne, se⟩ := t
        simp only at hXT hj hpart
        generalize jdg 7 tApp tAnn [tRead] cr us idl ab gr ge tk st en 0 ti 7 tg ha mi sp9 at9 ne se now = jv at *
        have HT := hide ht
        have HP9 := hide hpart
        have HG := hide hgW
        have HX := hide hXT
        clear ht hpart hgW hXT
        cases hq : (A && decide (k + 1 = n))
        · skip
          have hjn : ¬ jv = 1 := by intro h; have q := hj.1 h; simp [q.1, q.2] at hq
          have HC : Hid (∀ W, Below wr.heap.size wr W → Calls Tryz.prog 18 #[.agg #[I 7, S tApp, S tAnn, v9, I cr, I us, I idl, I ab, I gr, I ge, I tk, I st, I en, I 0], .agg #[I ti, I 7, I tg, S ha, I mi, .bool sp9, I at9, I ne, S se], I now] W fun e w' => ∃ a cap, e = .returned (.agg ((fun _ => #[.bool false, S [], S [], .slice none 0 0, I 0, I 0, I 0, I 0]) (Value.slice a 0 cap))) ∧ OwnS wr.heap.size w' (.slice a 0 cap) [] ∧ Below W.heap.size W w') := hide (fun W hb => (unhide HX W hb).mono fun e w' q => by
            rw [OutT, if_neg hjn] at q
            exact ⟨none, 0, q.1, own_nil _ _, q.2⟩)
          clear hj hjn HX
          have HQ := hide hq
          clear hq
          go_upto_region 5 with fail
          have HW0 := hide (Below.refl wr.heap.size wr)
          refine region_tabG ri5T [(0, ptr P), (10, I (k : Int)), (1, I now)] 129 [0, 1, 2, 4, 5, 6, 8, 11] [] (ri5V P gl n cl k #[I 7, S tApp, S tAnn, v9, I cr, I us, I idl, I ab, I gr, I ge, I tk, I st, I en, I 0] #[I ti, I 7, I tg, S ha, I mi, .bool sp9, I at9, I ne, S se] now (fun _ => #[.bool false, S [], S [], .slice none 0 0, I 0, I 0, I 0, I 0]) 0) rfl (by rfl) (by rfl) rfl (fun c => by kernel_rfl) (fun c => by kernel_rfl) (fun c w => by kernel_rfl) _ wr (Nat.le_of_ble_eq_true rfl) rfl (WTe (fun W v => OwnS wr.heap.size W v []) wr 0 #[.bool false, S [], S [], .slice none 0 0, I 0, I 0, I 0, I 0] (fun _ => #[.bool false, S [], S [], .slice none 0 0, I 0, I 0, I 0, I 0])) ⟨((none, 0), 0), ⟨(Below.refl _ _).drew, (fun e => by cases e), (fun e => by cases e), (fun e => by cases e)⟩⟩ (fun i hi c L W hW => hW.pure i (by intro e; subst e; simp at hi) (by intro e; subst e; simp at hi) (by intro e; subst e; simp at hi)) ?spc ?_
          case spc =>
            intro i hi hp hs c L W hW hL hd
            rcases (by simp [ri5T] at hi hp hs; omega : i = 3 ∨ i = 7 ∨ i = 9 ∨ i = 10 ∨ i = 12 ∨ i = 13 ∨ i = 14) with rfl | rfl | rfl | rfl | rfl | rfl | rfl
            · skip
              have f1 : (Instr.loadAt 24 (ptr P)).run Tryz.prog W = .ok (.agg #[I 7, S tApp, S tAnn, v9, I cr, I us, I idl, I ab, I gr, I ge, I tk, I st, I en, I 0]) W := s_ldr (T := 24) (n := 14) (o := 0) (fun _ => by kernel_rfl) (fun _ => by kernel_rfl) ((hW.be.block _ (lt_of_row (unhide HRow))).trans (unhide HRow)) (#[I 7, S tApp, S tAnn, v9, I cr, I us, I idl, I ab, I gr, I ge, I tk, I st, I en, I 0]).toList rfl rfl
              exact ⟨f1, hW.pure 3 (by decide) (by decide) (by decide)⟩
            · skip
              have f1 : (Instr.loadAt 61 (.pointer (some ⟨P, 14, none⟩))).run Tryz.prog W = .ok (.slice (some ⟨gl, 0, none⟩) n cl) W := s_ld (T := 61) (fun _ => by kernel_rfl) (cellr ((hW.be.block _ (lt_of_row (unhide HRow))).trans (unhide HRow)) rfl)
              exact ⟨f1, hW.pure 7 (by decide) (by decide) (by decide)⟩
            · skip
              exact ⟨⟨_, rfl, s_ix61 gl n cl k hlt⟩, hW.pure 9 (by decide) (by decide) (by decide)⟩
            · skip
              have f1 : (Instr.loadAt 26 (.pointer (some ⟨gl, k * 9, none⟩))).run Tryz.prog W = .ok (.agg #[I ti, I 7, I tg, S ha, I mi, .bool sp9, I at9, I ne, S se]) W := s_ldr (T := 26) (n := 9) (o := k * 9) (fun _ => by kernel_rfl) (fun _ => by kernel_rfl) ((hW.be.block _ (lt_of_row (unhide HG))).trans (unhide HG)) (#[I ti, I 7, I tg, S ha, I mi, .bool sp9, I at9, I ne, S se]).toList rfl (unhide HP9)
              exact ⟨f1, hW.pure 10 (by decide) (by decide) (by decide)⟩
            · skip
              refine ⟨⟨_, _, Tryz.func18, by kernel_rfl, rfl⟩, (unhide HC W hW.be).mono fun e w' q => ?_⟩
              obtain ⟨a, cap, e1, e2, e3⟩ := q
              exact ⟨((a, cap), c.2), fun j hj => ri5V_ne (by intro e; subst e; rw [hL] at hj; cases hj), e1, hW.got (fun _ _ _ h hb => h.below hb (Nat.le_refl _)) hL e2 e3⟩
            · skip
              exact ⟨(c.1, W.heap.size), _, fun j hj => ri5V_na (by intro e; subst e; rw [hL] at hj; cases hj), (show (Instr.alloc 40 true (.tuple #[])).run Tryz.prog W = .ok (ptr W.heap.size) (W.alloc (.cells #[.bool false, S [], S [], .slice none 0 0, I 0, I 0, I 0, I 0] 40)) by kernel_rfl), hW.al0 (fun _ _ _ h hb => h.below hb (Nat.le_refl _)) hL⟩
            · skip
              have hA5 : L 13 = true := hd 13 (by rfl)
              have hK5 : L 12 = true := hd 12 (by rfl)
              have hr := (hW.b0 hA5).2
              rw [hL] at hr
              have f1 : (Instr.storeAt 40 (ptr c.2) (.agg ((fun _ => #[.bool false, S [], S [], .slice none 0 0, I 0, I 0, I 0, I 0]) (Value.slice c.1.1 0 c.1.2)))).run Tryz.prog W = .ok () (W.setRow c.2 ((fun _ => #[.bool false, S [], S [], .slice none 0 0, I 0, I 0, I 0, I 0]) (Value.slice c.1.1 0 c.1.2))) := st_all (T := 40) (n := 8) (fun _ => by kernel_rfl) (cs := #[.bool false, S [], S [], .slice none 0 0, I 0, I 0, I 0, I 0]) hr rfl ((fun _ => #[.bool false, S [], S [], .slice none 0 0, I 0, I 0, I 0, I 0]) (Value.slice c.1.1 0 c.1.2)) rfl (by simp [Value.oneCell'])
              exact ⟨rfl, _, f1, hW.st0 (fun _ _ _ _ _ _ h hk ht => own_set2 h hk ht _) hA5 hK5⟩
          intro c L W5 hall hW
          simp only [frmL, ri5T, ri5V, Act.put, List.setIfInBounds_toArray, List.set_cons_succ, List.set_cons_zero]
          obtain ⟨⟨a, cap⟩, x⟩ := c
          obtain ⟨hx1, rx⟩ := hW.b0 (hall 13 (by decide))
          rw [hall 14 (by decide)] at rx
          have be := hW.be
          clear hall hW HC
          have HB5 := hide ((unhide HB).trans (be.mono (unhide HB).size))
          have row5 := (be.block _ (lt_of_row (unhide HRow))).trans (unhide HRow)
          clear HB HW0 c14
          have d14 : W5.cell? ⟨P, 14, none⟩ = some (.slice (some ⟨gl, 0, none⟩) n cl) := cellr row5 rfl
          have d0 : W5.cell? ⟨P, 0, none⟩ = some (I 7) := cellr row5 rfl
          have rx2 : W5.heap[x]? = some (.cells #[.bool false, S [], S [], .slice none 0 0, I 0, I 0, I 0, I 0] 40 (0, 0)) := rx
          have e0 : W5.cell? ⟨x, 0, none⟩ = some (.bool false) := cellr rx2 rfl
          have e1 : W5.cell? ⟨x, 1, none⟩ = some (S []) := cellr rx2 rfl
          have e2 : W5.cell? ⟨x, 2, none⟩ = some (S []) := cellr rx2 rfl
          have e3 : W5.cell? ⟨x, 3, none⟩ = some (.slice none 0 0) := cellr rx2 rfl
          have e4 : W5.cell? ⟨x, 4, none⟩ = some (I 0) := cellr rx2 rfl
          have e5 : W5.cell? ⟨x, 5, none⟩ = some (I 0) := cellr rx2 rfl
          have e6 : W5.cell? ⟨x, 6, none⟩ = some (I 0) := cellr rx2 rfl
          have e7 : W5.cell? ⟨x, 7, none⟩ = some (I 0) := cellr rx2 rfl
          clear rx rx2 row5 be hx1 HP9 HG HRow HT
          cases A
          · skip
            go_upto_region 6 with fail
            go_quiet (fail)
            go_upto_region 8 with fail
            go_quiet (fail)
            go_wp2
            refine ⟨⟨k + 1, by omega, by go_num, (unhide HB5).trans (Below.mono (Only.to_below (Only.drewN _ _ _)) (unhide HB5).size)⟩, ?_⟩
            simp [Go.RowKit.intOf]; omega
          · have hkn : ¬ k + 1 = n := by have := unhide HQ; simpa using this
            have q0 : ((k : Int) == (n : Int) - 1) = false := by rw [beq_eq_false_iff_ne]; omega
            clear hkn HQ
            go_upto_region 6 with fail
            go_quiet (fail)
            go_upto_region 8 with fail
            go_quiet (fail)
            go_wp2
            refine ⟨⟨k + 1, by omega, by go_num, (unhide HB5).trans (Below.mono (Only.to_below (Only.drewN _ _ _)) (unhide HB5).size)⟩, ?_⟩
            simp [Go.RowKit.intOf]; omega
        · skip
          obtain ⟨hA1, hk1⟩ : A = true ∧ k + 1 = n := by simpa using hq
          subst hA1
          have hjn : jv = 1 := hj.2 ⟨rfl, hk1⟩
          obtain ⟨he1, he2⟩ := unhide HE rfl
          have HC : Hid (∀ W, Below wr.heap.size wr W → Calls Tryz.prog 18 #[.agg #[I 7, S tApp, S tAnn, v9, I cr, I us, I idl, I ab, I gr, I ge, I tk, I st, I en, I 0], .agg #[I ti, I 7, I tg, S ha, I mi, .bool sp9, I at9, I ne, S se], I now] W fun e w' => ∃ a cap, e = .returned (.agg ((fun v => #[.bool true, S tApp, S tAnn, v, I 7, I mi, I (endV cr us idl ab st en), I ge]) (Value.slice a 1 cap))) ∧ OwnS wr.heap.size w' (.slice a 1 cap) [tRead] ∧ Below W.heap.size W w') := hide (fun W hb => (unhide HX W hb).mono fun e w' q => by
            rw [OutT, if_pos hjn] at q
            obtain ⟨a, cap, e1, e2, e3⟩ := q
            exact ⟨a, cap, e1, e2.below (Below.refl _ _) hb.size, e3⟩)
          clear hj hjn HX
          have HE1 := hide he1
          have HE2 := hide he2
          have HK1 := hide hk1
          clear he1 he2 hk1
          clear hq
          go_upto_region 5 with fail
          have HW0 := hide (Below.refl wr.heap.size wr)
          refine region_tabG ri5T [(0, ptr P), (10, I (k : Int)), (1, I now)] 129 [0, 1, 2, 4, 5, 6, 8, 11] [] (ri5V P gl n cl k #[I 7, S tApp, S tAnn, v9, I cr, I us, I idl, I ab, I gr, I ge, I tk, I st, I en, I 0] #[I ti, I 7, I tg, S ha, I mi, .bool sp9, I at9, I ne, S se] now (fun v => #[.bool true, S tApp, S tAnn, v, I 7, I mi, I (endV cr us idl ab st en), I ge]) 1) rfl (by rfl) (by rfl) rfl (fun c => by kernel_rfl) (fun c => by kernel_rfl) (fun c w => by kernel_rfl) _ wr (Nat.le_of_ble_eq_true rfl) rfl (WTe (fun W v => OwnS wr.heap.size W v [tRead]) wr 1 #[.bool false, S [], S [], .slice none 0 0, I 0, I 0, I 0, I 0] (fun v => #[.bool true, S tApp, S tAnn, v, I 7, I mi, I (endV cr us idl ab st en), I ge])) ⟨((none, 0), 0), ⟨(Below.refl _ _).drew, (fun e => by cases e), (fun e => by cases e), (fun e => by cases e)⟩⟩ (fun i hi c L W hW => hW.pure i (by intro e; subst e; simp at hi) (by intro e; subst e; simp at hi) (by intro e; subst e; simp at hi)) ?spc ?_
          case spc =>
            intro i hi hp hs c L W hW hL hd
            rcases (by simp [ri5T] at hi hp hs; omega : i = 3 ∨ i = 7 ∨ i = 9 ∨ i = 10 ∨ i = 12 ∨ i = 13 ∨ i = 14) with rfl | rfl | rfl | rfl | rfl | rfl | rfl
            · skip
              have f1 : (Instr.loadAt 24 (ptr P)).run Tryz.prog W = .ok (.agg #[I 7, S tApp, S tAnn, v9, I cr, I us, I idl, I ab, I gr, I ge, I tk, I st, I en, I 0]) W := s_ldr (T := 24) (n := 14) (o := 0) (fun _ => by kernel_rfl) (fun _ => by kernel_rfl) ((hW.be.block _ (lt_of_row (unhide HRow))).trans (unhide HRow)) (#[I 7, S tApp, S tAnn, v9, I cr, I us, I idl, I ab, I gr, I ge, I tk, I st, I en, I 0]).toList rfl rfl
              exact ⟨f1, hW.pure 3 (by decide) (by decide) (by decide)⟩
            · skip
              have f1 : (Instr.loadAt 61 (.pointer (some ⟨P, 14, none⟩))).run Tryz.prog W = .ok (.slice (some ⟨gl, 0, none⟩) n cl) W := s_ld (T := 61) (fun _ => by kernel_rfl) (cellr ((hW.be.block _ (lt_of_row (unhide HRow))).trans (unhide HRow)) rfl)
              exact ⟨f1, hW.pure 7 (by decide) (by decide) (by decide)⟩
            · skip
              exact ⟨⟨_, rfl, s_ix61 gl n cl k hlt⟩, hW.pure 9 (by decide) (by decide) (by decide)⟩
            · skip
              have f1 : (Instr.loadAt 26 (.pointer (some ⟨gl, k * 9, none⟩))).run Tryz.prog W = .ok (.agg #[I ti, I 7, I tg, S ha, I mi, .bool sp9, I at9, I ne, S se]) W := s_ldr (T := 26) (n := 9) (o := k * 9) (fun _ => by kernel_rfl) (fun _ => by kernel_rfl) ((hW.be.block _ (lt_of_row (unhide HG))).trans (unhide HG)) (#[I ti, I 7, I tg, S ha, I mi, .bool sp9, I at9, I ne, S se]).toList rfl (unhide HP9)
              exact ⟨f1, hW.pure 10 (by decide) (by decide) (by decide)⟩
            · skip
              refine ⟨⟨_, _, Tryz.func18, by kernel_rfl, rfl⟩, (unhide HC W hW.be).mono fun e w' q => ?_⟩
              obtain ⟨a, cap, e1, e2, e3⟩ := q
              exact ⟨((a, cap), c.2), fun j hj => ri5V_ne (by intro e; subst e; rw [hL] at hj; cases hj), e1, hW.got (fun _ _ _ h hb => h.below hb (Nat.le_refl _)) hL e2 e3⟩
            · skip
              exact ⟨(c.1, W.heap.size), _, fun j hj => ri5V_na (by intro e; subst e; rw [hL] at hj; cases hj), (show (Instr.alloc 40 true (.tuple #[])).run Tryz.prog W = .ok (ptr W.heap.size) (W.alloc (.cells #[.bool false, S [], S [], .slice none 0 0, I 0, I 0, I 0, I 0] 40)) by kernel_rfl), hW.al0 (fun _ _ _ h hb => h.below hb (Nat.le_refl _)) hL⟩
            · skip
              have hA5 : L 13 = true := hd 13 (by rfl)
              have hK5 : L 12 = true := hd 12 (by rfl)
              have hr := (hW.b0 hA5).2
              rw [hL] at hr
              have f1 : (Instr.storeAt 40 (ptr c.2) (.agg ((fun v => #[.bool true, S tApp, S tAnn, v, I 7, I mi, I (endV cr us idl ab st en), I ge]) (Value.slice c.1.1 1 c.1.2)))).run Tryz.prog W = .ok () (W.setRow c.2 ((fun v => #[.bool true, S tApp, S tAnn, v, I 7, I mi, I (endV cr us idl ab st en), I ge]) (Value.slice c.1.1 1 c.1.2))) := st_all (T := 40) (n := 8) (fun _ => by kernel_rfl) (cs := #[.bool false, S [], S [], .slice none 0 0, I 0, I 0, I 0, I 0]) hr rfl ((fun v => #[.bool true, S tApp, S tAnn, v, I 7, I mi, I (endV cr us idl ab st en), I ge]) (Value.slice c.1.1 1 c.1.2)) rfl (by simp [Value.oneCell'])
              exact ⟨rfl, _, f1, hW.st0 (fun _ _ _ _ _ _ h hk ht => own_set2 h hk ht _) hA5 hK5⟩
          intro c L W5 hall hW
          simp only [frmL, ri5T, ri5V, Act.put, List.setIfInBounds_toArray, List.set_cons_succ, List.set_cons_zero]
          obtain ⟨⟨a, cap⟩, x⟩ := c
          obtain ⟨hx1, rx⟩ := hW.b0 (hall 13 (by decide))
          rw [hall 14 (by decide)] at rx
          have be := hW.be
          clear hall hW HC
          have HB5 := hide ((unhide HB).trans (be.mono (unhide HB).size))
          have row5 := (be.block _ (lt_of_row (unhide HRow))).trans (unhide HRow)
          clear HB HW0 c14
          have d14 : W5.cell? ⟨P, 14, none⟩ = some (.slice (some ⟨gl, 0, none⟩) n cl) := cellr row5 rfl
          have d0 : W5.cell? ⟨P, 0, none⟩ = some (I 7) := cellr row5 rfl
          have rx2 : W5.heap[x]? = some (.cells #[.bool true, S tApp, S tAnn, .slice a 1 cap, I 7, I mi, I (endV cr us idl ab st en), I ge] 40 (0, 0)) := rx
          have e0 : W5.cell? ⟨x, 0, none⟩ = some (.bool true) := cellr rx2 rfl
          have e1 : W5.cell? ⟨x, 1, none⟩ = some (S tApp) := cellr rx2 rfl
          have e2 : W5.cell? ⟨x, 2, none⟩ = some (S tAnn) := cellr rx2 rfl
          have e3 : W5.cell? ⟨x, 3, none⟩ = some (.slice a 1 cap) := cellr rx2 rfl
          have e4 : W5.cell? ⟨x, 4, none⟩ = some (I 7) := cellr rx2 rfl
          have e5 : W5.cell? ⟨x, 5, none⟩ = some (I mi) := cellr rx2 rfl
          have e6 : W5.cell? ⟨x, 6, none⟩ = some (I (endV cr us idl ab st en)) := cellr rx2 rfl
          have e7 : W5.cell? ⟨x, 7, none⟩ = some (I ge) := cellr rx2 rfl
          clear rx rx2 row5 be hx1 HP9 HG HRow HT
          have q0 : ((k : Int) == (n : Int) - 1) = true := by have := unhide HK1; simp; omega
          have q1 : (endV cr us idl ab st en != en9) = false := by rw [unhide HE1]; simp
          have q2 : (ge != (n : Int)) = false := by rw [unhide HE2]; simp
          generalize endV cr us idl ab st en = EV at *
          clear HE1 HE2 HK1
          go_upto_region 6 with fail
          go_quiet (fail)
          go_upto_region 8 with fail
          go_quiet (fail)
          go_wp2
          refine ⟨⟨k + 1, by omega, by go_num, (unhide HB5).trans (Below.mono (Only.to_below (Only.drewN _ _ _)) (unhide HB5).size)⟩, ?_⟩
          simp [Go.RowKit.intOf]; omega
      · have hkn : k = n := by omega
        subst hkn
        have hd9 : ¬ (k : Int) < (k : Int) := by omega
        go_wp2_with (refine wp_run rfl (g_load (t := 24) (a := .tmp 100) rfl (by rfl) (s_ldr (T := 24) (n := 14) (o := 0) (fun _ => by kernel_rfl) (fun _ => by kernel_rfl) (unhide HRow) (#[I 7, S tApp, S tAnn, v9, I cr, I us, I idl, I ab, I gr, I ge, I tk, I st, I en, I 0]).toList rfl rfl)) ?_)
        refine (unhide XO (now - fr + 1) wr).mono ?_
        rintro e w2 ⟨rfl, h2⟩
        rw [unhide HO1]
        have HB2 := hide ((unhide HB).trans (h2.mono (unhide HB).size))
        have HRow2 := hide ((h2.block _ (lt_of_row (unhide HRow))).trans (unhide HRow))
        clear h2 HB HRow c14
        go_wp2_with (refine wp_run rfl (g_load (t := 24) (a := .tmp 110) rfl (by rfl) (s_ldr (T := 24) (n := 14) (o := 0) (fun _ => by kernel_rfl) (fun _ => by kernel_rfl) (unhide HRow2) (#[I 7, S tApp, S tAnn, v9, I cr, I us, I idl, I ab, I gr, I ge, I tk, I st, I en, I 0]).toList rfl rfl)) ?_)
        refine (unhide XO (now - fr) w2).mono ?_
        rintro e w3 ⟨rfl, h3⟩
        rw [unhide HO2]
        have HB3 := hide ((unhide HB2).trans (h3.mono (unhide HB2).size))
        clear h3 HB2 HRow2
        cases A
        · go_wp2
          go_ret
          exact ⟨rfl, unhide HB3⟩
        · go_wp2
          go_ret
          exact ⟨rfl, unhide HB3⟩
  · skip
    have hA3 : A = false := unhide HA2
    subst hA3
    clear HA2
    go_wp2
    go_loopw [10] (fun i wr => ∃ k : Nat, k ≤ n ∧ i = .int .i64 k ∧ Below w.heap.size w wr) (fun i _ => n - (Go.RowKit.intOf i).toNat)
    case atStart => exact ⟨0, by omega, rfl, Below.refl _ _⟩
    case round =>
      clear c14 c16
      obtain ⟨k, hk, rfl, hb⟩ := hrel
      have hrow := (hb.block P (lt_of_row (unhide HPr))).trans (unhide HPr)
      have HB := hide hb
      have c14 : wr.cell? ⟨P, 14, none⟩ = some (.slice (some ⟨gl, 0, none⟩) n cl) := cellr hrow rfl
      have HRow := hide hrow
      clear hb hrow
      by_cases hlt : k < n
      · have hlt' : (k : Int) < (n : Int) := by omega
        obtain ⟨t, ht⟩ : ∃ t, l[k]? = some t := ⟨_, List.getElem?_eq_getElem (by have := unhide HN; omega)⟩
        have hXT := (fun W (hb : Below wr.heap.size wr W) => unhide XT k t W ht ((unhide HB).trans (hb.mono (unhide HB).size)))
        have hj := unhide HJ k t ht
        obtain ⟨gl2, cl2, curT, eT, _, hgT, hszT, htkT⟩ := row_form (unhide HBM).tok (by have := unhide HN; omega)
        obtain ⟨rfl, hnl, rfl⟩ : gl = gl2 ∧ n = l.length ∧ cl = cl2 := by simpa using eT
        clear hnl
        have hpart := tok_part htkT ht
        have hgW := ((unhide HB).block gl (lt_of_row hgT)).trans hgT
        clear hgT eT htkT hszT
        obtain ⟨ti, tg, ha, mi, sp9, at9, ne, se⟩ := t
        simp only at hXT hj hpart
        generalize jdg 7 tApp tAnn [tRead] cr us idl ab gr ge tk st en 0 ti 7 tg ha mi sp9 at9 ne se now = jv at *
        have HT := hide ht
        have HP9 := hide hpart
        have HG := hide hgW
        have HX := hide hXT
        clear ht hpart hgW hXT
        cases hq : (false && decide (k + 1 = n))
        · skip
          have hjn : ¬ jv = 1 := by intro h; have q := hj.1 h; exact absurd q.1 (by simp)
          have HC : Hid (∀ W, Below wr.heap.size wr W → Calls Tryz.prog 18 #[.agg #[I 7, S tApp, S tAnn, v9, I cr, I us, I idl, I ab, I gr, I ge, I tk, I st, I en, I 0], .agg #[I ti, I 7, I tg, S ha, I mi, .bool sp9, I at9, I ne, S se], I now] W fun e w' => ∃ a cap, e = .returned (.agg ((fun _ => #[.bool false, S [], S [], .slice none 0 0, I 0, I 0, I 0, I 0]) (Value.slice a 0 cap))) ∧ OwnS wr.heap.size w' (.slice a 0 cap) [] ∧ Below W.heap.size W w') := hide (fun W hb => (unhide HX W hb).mono fun e w' q => by
            rw [OutT, if_neg hjn] at q
            exact ⟨none, 0, q.1, own_nil _ _, q.2⟩)
          clear hj hjn HX
          have HQ := hide hq
          clear hq
          go_upto_region 5 with fail
          have HW0 := hide (Below.refl wr.heap.size wr)
          refine region_tabG ri5T [(0, ptr P), (10, I (k : Int)), (1, I now)] 129 [0, 1, 2, 4, 5, 6, 8, 11] [] (ri5V P gl n cl k #[I 7, S tApp, S tAnn, v9, I cr, I us, I idl, I ab, I gr, I ge, I tk, I st, I en, I 0] #[I ti, I 7, I tg, S ha, I mi, .bool sp9, I at9, I ne, S se] now (fun _ => #[.bool false, S [], S [], .slice none 0 0, I 0, I 0, I 0, I 0]) 0) rfl (by rfl) (by rfl) rfl (fun c => by kernel_rfl) (fun c => by kernel_rfl) (fun c w => by kernel_rfl) _ wr (Nat.le_of_ble_eq_true rfl) rfl (WTe (fun W v => OwnS wr.heap.size W v []) wr 0 #[.bool false, S [], S [], .slice none 0 0, I 0, I 0, I 0, I 0] (fun _ => #[.bool false, S [], S [], .slice none 0 0, I 0, I 0, I 0, I 0])) ⟨((none, 0), 0), ⟨(Below.refl _ _).drew, (fun e => by cases e), (fun e => by cases e), (fun e => by cases e)⟩⟩ (fun i hi c L W hW => hW.pure i (by intro e; subst e; simp at hi) (by intro e; subst e; simp at hi) (by intro e; subst e; simp at hi)) ?spc ?_
          case spc =>
            intro i hi hp hs c L W hW hL hd
            rcases (by simp [ri5T] at hi hp hs; omega : i = 3 ∨ i = 7 ∨ i = 9 ∨ i = 10 ∨ i = 12 ∨ i = 13 ∨ i = 14) with rfl | rfl | rfl | rfl | rfl | rfl | rfl
            · skip
              have f1 : (Instr.loadAt 24 (ptr P)).run Tryz.prog W = .ok (.agg #[I 7, S tApp, S tAnn, v9, I cr, I us, I idl, I ab, I gr, I ge, I tk, I st, I en, I 0]) W := s_ldr (T := 24) (n := 14) (o := 0) (fun _ => by kernel_rfl) (fun _ => by kernel_rfl) ((hW.be.block _ (lt_of_row (unhide HRow))).trans (unhide HRow)) (#[I 7, S tApp, S tAnn, v9, I cr, I us, I idl, I ab, I gr, I ge, I tk, I st, I en, I 0]).toList rfl rfl
              exact ⟨f1, hW.pure 3 (by decide) (by decide) (by decide)⟩
            · skip
              have f1 : (Instr.loadAt 61 (.pointer (some ⟨P, 14, none⟩))).run Tryz.prog W = .ok (.slice (some ⟨gl, 0, none⟩) n cl) W := s_ld (T := 61) (fun _ => by kernel_rfl) (cellr ((hW.be.block _ (lt_of_row (unhide HRow))).trans (unhide HRow)) rfl)
              exact ⟨f1, hW.pure 7 (by decide) (by decide) (by decide)⟩
            · skip
              exact ⟨⟨_, rfl, s_ix61 gl n cl k hlt⟩, hW.pure 9 (by decide) (by decide) (by decide)⟩
            · skip
              have f1 : (Instr.loadAt 26 (.pointer (some ⟨gl, k * 9, none⟩))).run Tryz.prog W = .ok (.agg #[I ti, I 7, I tg, S ha, I mi, .bool sp9, I at9, I ne, S se]) W := s_ldr (T := 26) (n := 9) (o := k * 9) (fun _ => by kernel_rfl) (fun _ => by kernel_rfl) ((hW.be.block _ (lt_of_row (unhide HG))).trans (unhide HG)) (#[I ti, I 7, I tg, S ha, I mi, .bool sp9, I at9, I ne, S se]).toList rfl (unhide HP9)
              exact ⟨f1, hW.pure 10 (by decide) (by decide) (by decide)⟩
            · skip
              refine ⟨⟨_, _, Tryz.func18, by kernel_rfl, rfl⟩, (unhide HC W hW.be).mono fun e w' q => ?_⟩
              obtain ⟨a, cap, e1, e2, e3⟩ := q
              exact ⟨((a, cap), c.2), fun j hj => ri5V_ne (by intro e; subst e; rw [hL] at hj; cases hj), e1, hW.got (fun _ _ _ h hb => h.below hb (Nat.le_refl _)) hL e2 e3⟩
            · skip
              exact ⟨(c.1, W.heap.size), _, fun j hj => ri5V_na (by intro e; subst e; rw [hL] at hj; cases hj), (show (Instr.alloc 40 true (.tuple #[])).run Tryz.prog W = .ok (ptr W.heap.size) (W.alloc (.cells #[.bool false, S [], S [], .slice none 0 0, I 0, I 0, I 0, I 0] 40)) by kernel_rfl), hW.al0 (fun _ _ _ h hb => h.below hb (Nat.le_refl _)) hL⟩
            · skip
              have hA5 : L 13 = true := hd 13 (by rfl)
              have hK5 : L 12 = true := hd 12 (by rfl)
              have hr := (hW.b0 hA5).2
              rw [hL] at hr
              have f1 : (Instr.storeAt 40 (ptr c.2) (.agg ((fun _ => #[.bool false, S [], S [], .slice none 0 0, I 0, I 0, I 0, I 0]) (Value.slice c.1.1 0 c.1.2)))).run Tryz.prog W = .ok () (W.setRow c.2 ((fun _ => #[.bool false, S [], S [], .slice none 0 0, I 0, I 0, I 0, I 0]) (Value.slice c.1.1 0 c.1.2))) := st_all (T := 40) (n := 8) (fun _ => by kernel_rfl) (cs := #[.bool false, S [], S [], .slice none 0 0, I 0, I 0, I 0, I 0]) hr rfl ((fun _ => #[.bool false, S [], S [], .slice none 0 0, I 0, I 0, I 0, I 0]) (Value.slice c.1.1 0 c.1.2)) rfl (by simp [Value.oneCell'])
              exact ⟨rfl, _, f1, hW.st0 (fun _ _ _ _ _ _ h hk ht => own_set2 h hk ht _) hA5 hK5⟩
          intro c L W5 hall hW
          simp only [frmL, ri5T, ri5V, Act.put, List.setIfInBounds_toArray, List.set_cons_succ, List.set_cons_zero]
          obtain ⟨⟨a, cap⟩, x⟩ := c
          obtain ⟨hx1, rx⟩ := hW.b0 (hall 13 (by decide))
          rw [hall 14 (by decide)] at rx
          have be := hW.be
          clear hall hW HC
          have HB5 := hide ((unhide HB).trans (be.mono (unhide HB).size))
          have row5 := (be.block _ (lt_of_row (unhide HRow))).trans (unhide HRow)
          clear HB HW0 c14
          have d14 : W5.cell? ⟨P, 14, none⟩ = some (.slice (some ⟨gl, 0, none⟩) n cl) := cellr row5 rfl
          have d0 : W5.cell? ⟨P, 0, none⟩ = some (I 7) := cellr row5 rfl
          have rx2 : W5.heap[x]? = some (.cells #[.bool false, S [], S [], .slice none 0 0, I 0, I 0, I 0, I 0] 40 (0, 0)) := rx
          have e0 : W5.cell? ⟨x, 0, none⟩ = some (.bool false) := cellr rx2 rfl
          have e1 : W5.cell? ⟨x, 1, none⟩ = some (S []) := cellr rx2 rfl
          have e2 : W5.cell? ⟨x, 2, none⟩ = some (S []) := cellr rx2 rfl
          have e3 : W5.cell? ⟨x, 3, none⟩ = some (.slice none 0 0) := cellr rx2 rfl
          have e4 : W5.cell? ⟨x, 4, none⟩ = some (I 0) := cellr rx2 rfl
          have e5 : W5.cell? ⟨x, 5, none⟩ = some (I 0) := cellr rx2 rfl
          have e6 : W5.cell? ⟨x, 6, none⟩ = some (I 0) := cellr rx2 rfl
          have e7 : W5.cell? ⟨x, 7, none⟩ = some (I 0) := cellr rx2 rfl
          clear rx rx2 row5 be hx1 HP9 HG HRow HT
          go_upto_region 6 with fail
          go_quiet (fail)
          go_upto_region 8 with fail
          go_quiet (fail)
          go_wp2
          refine ⟨⟨k + 1, by omega, by go_num, (unhide HB5).trans (Below.mono (Only.to_below (Only.drewN _ _ _)) (unhide HB5).size)⟩, ?_⟩
          simp [Go.RowKit.intOf]; omega
        · skip
          cases hq
      · have hkn : k = n := by omega
        subst hkn
        have hd9 : ¬ (k : Int) < (k : Int) := by omega
        go_wp2_with (refine wp_run rfl (g_load (t := 24) (a := .tmp 100) rfl (by rfl) (s_ldr (T := 24) (n := 14) (o := 0) (fun _ => by kernel_rfl) (fun _ => by kernel_rfl) (unhide HRow) (#[I 7, S tApp, S tAnn, v9, I cr, I us, I idl, I ab, I gr, I ge, I tk, I st, I en, I 0]).toList rfl rfl)) ?_)
        refine (unhide XO (now - fr + 1) wr).mono ?_
        rintro e w2 ⟨rfl, h2⟩
        rw [unhide HO1]
        have HB2 := hide ((unhide HB).trans (h2.mono (unhide HB).size))
        have HRow2 := hide ((h2.block _ (lt_of_row (unhide HRow))).trans (unhide HRow))
        clear h2 HB HRow c14
        go_wp2_with (refine wp_run rfl (g_load (t := 24) (a := .tmp 110) rfl (by rfl) (s_ldr (T := 24) (n := 14) (o := 0) (fun _ => by kernel_rfl) (fun _ => by kernel_rfl) (unhide HRow2) (#[I 7, S tApp, S tAnn, v9, I cr, I us, I idl, I ab, I gr, I ge, I tk, I st, I en, I 0]).toList rfl rfl)) ?_)
        refine (unhide XO (now - fr) w2).mono ?_
        rintro e w3 ⟨rfl, h3⟩
        rw [unhide HO2]
        have HB3 := hide ((unhide HB2).trans (h3.mono (unhide HB2).size))
        clear h3 HB2 HRow2
        go_wp2
        go_ret
        exact ⟨rfl, unhide HB3⟩
end Go.Proofs.YtmjaobddgaglhaaGreatDoor
