import Derived.Test.YtbeionikiiccpaaDoorTkf
import Derived.Test.YtbeionikiiccpaaDoorRgtk
namespace Go.Proofs.YtbeionikiiccpaaDoor
open Go.RowKit Go.Lib Sha
set_option maxHeartbeats 4000000
set_option maxRecDepth 8000
theorem upd_self (L : Nat → Bool) (i : Nat) : upd L i i = true := by simp [upd]
theorem upd_ne {L : Nat → Bool} {i j : Nat} (h : j ≠ i) : upd L i j = L j := by simp [upd, h]
theorem s_add (x y : Operand) (a b : Int) (h0 : -9223372036854775808 ≤ a + b) (h1 : a + b ≤ 9223372036854775807) {w : World} : (do eqGuard .add 3 x y (I a) (I b); binOp .add 3 (I a) (I b) : Sem Value).run Tryd.prog w = .ok (I (a + b)) w := by
  have q : IntKind.i64.wrap (a + b) = a + b := by rw [IntKind.wrap_i64]; omega
  simp [go_sem, eqGuard, q]
theorem s_bs33 (v : Value) (W : World) (hv : ∃ n, v = .int .u8 n) : (Instr.buildSlice 33 1 #[(0, v)]).run Tryd.prog W = .ok (.slice (some ⟨W.heap.size, 0, none⟩) 1 1) (W.alloc (.cells #[v] 5)) := by
  obtain ⟨n, rfl⟩ := hv
  simp [go_sem, Tryd.zeroValue5, Tryd.sizeOf5]
theorem s_bs34 (x : Bs) (W : World) : (Instr.buildSlice 34 1 #[(0, S x)]).run Tryd.prog W = .ok (.slice (some ⟨W.heap.size, 0, none⟩) 1 1) (W.alloc (.cells #[S x] 9)) := by
  simp [go_sem, Tryd.zeroValue9, Tryd.sizeOf9]
/-- Within region 8: one byte laid. -/
structure W8 (wr : World) (y : Nat) (c : Cty) (L : Nat → Bool) (W : World) : Prop where
  pre : L 4 = false → W = wr.drew
  mid : L 4 = true → c.b = wr.heap.size ∧ W = wr.drew.alloc (.cells #[.int .u8 (y : Int)] 5)
/-- Within region 11: one text more. -/
structure W11 (wr : World) (v : Value) (x y : Bs) (c : Cty) (L : Nat → Bool) (W : World) : Prop where
  pre : L 22 = false → W = wr.drew
  mid : L 22 = true → c.b = wr.heap.size ∧ (L 23 = false → W = wr.drew.alloc (.cells #[S y] 9))
  post : L 23 = true → L 22 = true ∧ L 0 = true ∧ W.ownsRow 0 9 1 (.slice c.q 2 c.k) 2 [S x, S y] ∧ Only (fun k => v.ownBlock = some k) wr W
  lst : L 24 = true → L 23 = true
theorem ern_ne (k : Int) (t : Bs) (h : ¬ (rdT k t).2.2 = 0) : ¬ ern (rdT k t).2.2 = 0 := by
  rcases rdT_cases k t with q | q | q | q
  · exact absurd q h
  · rw [q]; decide
  · rw [q]; decide
  · rw [q]; decide
theorem owns_cells {W : World} {v : Value} {n : Nat} {xs : List Bs} (h : W.ownsRow 0 9 1 v n (xs.map S)) (h0 : 0 < n) : ∃ g cap, v = .slice (some ⟨g, 0, none⟩) n cap ∧ xs.length = n ∧ g < W.heap.size ∧ ∀ k, k < n → W.cell? ⟨g, k, none⟩ = some (S (xs.getD k [])) := by
  obtain ⟨h1, h2⟩ := h
  rw [List.length_map, Nat.mul_one] at h1
  rcases h2 with ⟨_, q⟩ | ⟨g, cap, cur, e1, _, e2, e3, e4, e5, e6⟩
  · omega
  · refine ⟨g, cap, e1, h1, (Array.getElem?_eq_some_iff.1 e2).1, fun k hk => ?_⟩
    rw [cell_of_row W g k cur 9 (0, 0) e2]
    rw [Nat.mul_one] at e6
    have e7 : cur.toList[k]? = (xs.map S)[k]? := by rw [← e6, List.getElem?_take_of_lt hk]
    rw [Array.getElem?_toList] at e7
    rw [e7, List.getElem?_map, List.getD_eq_getElem?_getD, List.getElem?_eq_getElem (by omega)]
    rfl
theorem tokenTyped_any (a0 a1 a2 : Addr) (kind id : Int) (secret : Bs) (at_ : Int) (c : UInt8) (w : World) (hE : Env a0 a1 a2 w) (hs : secret.length ≤ 2147483647)
    (k0 : -9223372036854775808 ≤ kind) (k1 : kind ≤ 9223372036854775807) (i0 : -9223372036854775808 ≤ id) (i1 : id ≤ 9223372036854775807) (t0 : -9223372036854775808 ≤ at_) (t1 : at_ ≤ 9223372036854775807) :
    Calls Tryd.prog 5 #[I kind, I id, S secret, I at_, .int .u8 c.toNat] w fun e w' => e = .returned (.bool true) ∧ Below w.heap.size w w' := by
  have hsi : (secret.length : Int) ≤ 2147483647 := by omega
  have HK := hide (pick_any kind 2 · k0 k1 (by omega) (by omega))
  have HI := hide (pick_any id 4611686018427387904 · i0 i1 (by omega) (by omega))
  have HT := hide (pick_any at_ 52 · t0 t1 (by omega) (by omega))
  have HS := hide (lsized_any secret · (by omega))
  have kl := pkv_lo kind 2 (by omega)
  have kh := pkv_hi kind 2 (by omega)
  have il := pkv_lo id 4611686018427387904 (by omega)
  have ih := pkv_hi id 4611686018427387904 (by omega)
  have tl := pkv_lo at_ 52 (by omega)
  have th := pkv_hi at_ 52 (by omega)
  have zl := szd_len secret
  clear k0 k1 i0 i1 t0 t1 hs
  generalize pkv kind 2 = kk at *
  generalize pkv id 4611686018427387904 = ii at *
  obtain ⟨j, hj⟩ : ∃ j : Nat, pkv at_ 52 = (j : Int) := ⟨(pkv at_ 52).toNat, by omega⟩
  rw [hj] at HT tl th
  clear hj
  generalize szd secret = z at *
  have hk : isK (1 + kk) := by unfold isK; omega
  have HM := hide (mint_any (1 + kk) (1 + ii) z)
  rw [show mnt (1 + kk) (1 + ii) z = (tkn (1 + kk) (1 + ii).toNat z, 0) by unfold mnt; rw [if_pos ⟨hk, ⟨by omega, by omega⟩, zl⟩]] at HM
  have HL := hide (fun t j' k' (hk' : isK k') h ht => near_taken hk hk' (1 + ii).toNat z zl j' t h ht)
  have hl := tkn_len (1 + kk) (1 + ii).toNat z zl
  generalize tkn (1 + kk) (1 + ii).toNat z = T at *
  have hli : (T.length : Int) = 52 := by omega
  have HE := hide hE
  clear hE zl hk
  go_enter Tryd.func5, Tryd.ntmps5
  go_wp2_with fail
  refine (awake_any a0 a1 a2 w (unhide HE)).mono ?_
  rintro e w1 ⟨rfl, hb1⟩
  have HB1 := hide hb1
  have HE1 := hide ((unhide HE).below hb1)
  clear hb1
  go_wp2_with fail
  refine (unhide HK _).mono ?_
  rintro e wq ⟨rfl, rfl⟩
  go_wp2_with fail
  refine (unhide HI _).mono ?_
  rintro e wq2 ⟨rfl, rfl⟩
  go_wp2_with fail
  refine (unhide HS _).mono ?_
  rintro e w2 ⟨rfl, hb2⟩
  have HB2 := hide ((unhide HB1).trans (hb2.mono (unhide HB1).size))
  have HE2 := hide ((unhide HE1).below hb2)
  clear hb2 HB1 HE1 HS HK HI
  go_wp2_with fail
  refine (unhide HM _).mono ?_
  rintro e w3 ⟨rfl, hb3⟩
  have HB3 := hide ((unhide HB2).trans (hb3.mono (unhide HB2).size))
  have HE3 := hide ((unhide HE2).below hb3)
  clear hb3 HB2 HE2 HM
  go_wp2_with fail
  refine (unhide HT _).mono ?_
  rintro e wq3 ⟨rfl, rfl⟩
  go_wp2
  refine rty8 T j c.toNat (by kernel_rfl) (by kernel_rfl) (by kernel_rfl) _ _ (by show 65 ≤ Array.size _; simp) rfl rfl rfl (W8 wq3 c.toNat) ⟨⟨0, none, 0⟩, fun _ => rfl, (fun q => nomatch q)⟩ ?_ (fun W => s_to T j (by omega)) ?_ ?_ (fun W => s_cat _ _ _ _ (by simp; omega)) ?_ (fun W => s_from T (j + 1) (by omega)) (fun W => s_cat _ _ _ _ (by simp; omega)) ?_
  · intro i hi c L W hW
    simp only [List.mem_cons, List.not_mem_nil, or_false] at hi
    exact ⟨by rw [upd_ne (Ne.symm hi)]; exact hW.pre, by rw [upd_ne (Ne.symm hi)]; exact hW.mid⟩
  · intro c' L W hW hL _
    rw [hW.pre hL]
    refine ⟨⟨wq3.heap.size, c'.q, c'.k⟩, _, fun i hi => ?_, s_bs33 _ wq3.drew ⟨_, rfl⟩, fun q => ?_, fun _ => ⟨rfl, rfl⟩⟩
    · unfold vrty8
      split <;> first | rfl | (rw [hL] at hi; cases hi)
    · rw [upd_self] at q; cases q
  · intro c' L W hW _ h4
    obtain ⟨e1, e2⟩ := hW.mid h4
    rw [e1, e2]
    exact run_text (wq3.drew.alloc (.cells #[.int .u8 (c.toNat : Int)] 5)) wq3.heap.size 0 1 1 [UInt8.ofNat c.toNat] rfl (fun i hi => by
      have : i = 0 := by simpa using hi
      subst this
      exact (cell_of_row (wq3.drew.alloc (.cells #[.int .u8 (c.toNat : Int)] 5)) wq3.heap.size 0 _ 5 (0, 0) (heap_alloc_new wq3.drew _)).trans (by simp))
  · intro W
    have h := s_add (w := W) (.tmp 61) (.const (.int .i64 1)) (j : Int) 1 (by omega) (by omega)
    exact h
  intro c8 L8 w4 hall8 hW8
  obtain ⟨e81, e82⟩ := hW8.mid (hall8 4 (by omega))
  have HB4 : Hid (Below w.heap.size w w4) := hide (by
    have q := unhide HB3
    rw [e82]
    exact (q.trans ((Below.refl wq3.heap.size wq3).drew.mono q.size)).alloc q.size _)
  have HN1 := hide (near_one T j (UInt8.ofNat c.toNat) (by omega))
  clear hW8 e81 e82 hall8 HB3 HE3
  generalize T.take j ++ [UInt8.ofNat c.toNat] ++ T.drop (j + 1) = one at *
  generalize T.take j ++ [UInt8.ofNat c.toNat] = part at *
  by_cases hj : j < 51
  · have hji : (j : Int) < 51 := by omega
    go_wp2
    have HO5 := hide (owns_full (w := w4.alloc (.cells #[S one] 9)) (e := 9) (n := 1) (m := 1) (heap_alloc_new w4 (.cells #[S one] 9)) rfl (by unfold maxLen; omega))
    have HB5 := hide ((unhide HB4).alloc (unhide HB4).size (.cells #[S one] 9))
    have HG4 := hide ((unhide HB4).size)
    have HN2 := hide (near_two T j (by omega))
    generalize w4.alloc (.cells #[S one] 9) = w5 at *
    generalize w4.heap.size = g4 at *
    refine rty11 T j g4 (by kernel_rfl) (by kernel_rfl) (by kernel_rfl) _ _ (by show 93 ≤ Array.size _; simp) rfl rfl rfl (W11 w5 (.slice (some ⟨g4, 0, none⟩) 1 1) one (T.take j ++ (T.drop (j + 1)).take 1 ++ (T.drop j).take 1 ++ T.drop (j + 2))) ⟨⟨0, none, 0⟩, fun _ => rfl, (fun q => nomatch q), (fun q => nomatch q), (fun q => nomatch q)⟩ ?_ ?_ (fun W => s_to T j (by omega)) (fun W => s_add (.tmp 74) (.const (.int .i64 1)) (j : Int) 1 (by omega) (by omega)) (fun W => s_add (.tmp 76) (.const (.int .i64 2)) (j : Int) 2 (by omega) (by omega)) ?_ (fun W => s_cat _ _ _ _ (by simp; omega)) (fun W => s_add (.tmp 82) (.const (.int .i64 1)) (j : Int) 1 (by omega) (by omega)) ?_ (fun W => s_cat _ _ _ _ (by simp; omega)) (fun W => s_add (.tmp 87) (.const (.int .i64 2)) (j : Int) 2 (by omega) (by omega)) (fun W => s_from T (j + 2) (by omega)) (fun W => s_cat _ _ _ _ (by simp; omega)) ?_ ?_ ?_ ?_
    · intro i hi c L W hW
      simp only [List.mem_cons, List.not_mem_nil, or_false, not_or] at hi
      refine ⟨by rw [upd_ne (Ne.symm hi.1)]; exact hW.pre, by rw [upd_ne (Ne.symm hi.1), upd_ne (Ne.symm hi.2.1)]; exact hW.mid, ?_, by rw [upd_ne (Ne.symm hi.2.2), upd_ne (Ne.symm hi.2.1)]; exact hW.lst⟩
      rw [upd_ne (Ne.symm hi.1), upd_ne (Ne.symm hi.2.1)]
      intro q
      obtain ⟨q1, q2, q3⟩ := hW.post q
      refine ⟨q1, ?_, q3⟩
      by_cases e : 0 = i
      · rw [← e]; exact upd_self _ _
      · rw [upd_ne e]; exact q2
    · intro c L W hW h0
      cases q : L 24
      · rfl
      · rw [(hW.post (hW.lst q)).2.1] at h0; cases h0
    · intro W
      have h := s_mid (w := W) T (j + 1) (j + 2) (by omega) (by omega)
      rw [show (j + 2) - (j + 1) = 1 by omega] at h
      exact h
    · intro W
      have h := s_mid (w := W) T j (j + 1) (by omega) (by omega)
      rw [show (j + 1) - j = 1 by omega] at h
      exact h
    · intro c L W hW hL h1
      have h3 : L 23 = false := by
        cases q : L 23
        · rfl
        · rw [(hW.post q).1] at hL; cases hL
      rw [hW.pre hL]
      refine ⟨⟨w5.heap.size, c.q, c.k⟩, _, fun j hj => ?_, s_bs34 _ w5.drew, fun q => ?_, fun _ => ⟨rfl, fun _ => rfl⟩, fun q => ?_, fun q => ?_⟩
      · unfold vrty11
        split <;> first | rfl | (rw [hL] at hj; cases hj)
      · rw [upd_self] at q; cases q
      · rw [upd_ne (by decide), h3] at q; cases q
      · rw [upd_ne (by decide)] at q ⊢; exact hW.lst q
    · intro TT c' L W hW hL h00 h2
      obtain ⟨m2, m3⟩ := hW.mid h2
      obtain ⟨p, cp, w', q1, q2, q3, q4⟩ := app_own 34 9 TT _ 1 16 Tryd.underlying34 info9 rfl (by decide) (.slice (some ⟨g4, 0, none⟩) 1 1) 1 [S one] w5.drew (owns_same (unhide HO5) (fun _ _ => rfl)) [S (T.take j ++ (T.drop (j + 1)).take 1 ++ (T.drop j).take 1 ++ T.drop (j + 2))] rfl (by simp [Value.oneCell']) (by omega) (by omega)
      have h9 : L 24 = false := by
        cases q : L 24
        · rfl
        · rw [hW.lst q] at hL; cases hL
      refine ⟨⟨c'.b, p, cp⟩, w', fun j hj => ?_, ?_, ?_, ?_, ?_, fun _ => upd_self _ _⟩
      · unfold vrty11
        split <;> first | rfl | (rw [hL] at hj; cases hj) | (rw [h9] at hj; cases hj)
      · rw [m3 hL, m2]
        exact q1
      · rw [upd_ne (by decide), h2]; exact fun q => nomatch q
      · intro _
        refine ⟨m2, fun q => ?_⟩
        rw [upd_self] at q
        cases q
      · intro _
        exact ⟨by rw [upd_ne (by decide)]; exact h2, by rw [upd_ne (by decide)]; exact h00, q2, (Only.of_below (P := fun k => (Value.slice (some ⟨g4, 0, none⟩) 1 1).ownBlock = some k) (Below.refl _ _).drew).trans q3 (fun _ _ r => r)⟩
    · intro c' L W hW hL h3
      exact ⟨by rw [upd_ne (by decide)]; exact hW.pre, by rw [upd_ne (by decide), upd_ne (by decide)]; exact hW.mid, by rw [upd_ne (by decide), upd_ne (by decide), upd_ne (by decide)]; exact hW.post, fun _ => by rw [upd_ne (by decide)]; exact h3⟩
    intro c11 L11 w6 hall11 hW11
    obtain ⟨_, _, hO6, ho6⟩ := hW11.post (hall11 23 (by omega))
    have HBL : Hid (Below w.heap.size w w6) := hide (ho6.below (unhide HB5) (unhide HB5).size (fun k hk => by
      have : g4 = k := by simpa [Value.ownBlock] using hk
      have := unhide HG4
      omega))
    have HO : Hid (w6.ownsRow 0 9 1 (.slice c11.q 2 c11.k) 2 ([one, T.take j ++ (T.drop (j + 1)).take 1 ++ (T.drop j).take 1 ++ T.drop (j + 2)].map S)) := hide hO6
    have HNX : Hid (∀ k, k < 2 → Near j T ([one, T.take j ++ (T.drop (j + 1)).take 1 ++ (T.drop j).take 1 ++ T.drop (j + 2)].getD k [])) := hide (fun k hk => by
      match k, hk with
      | 0, _ => exact unhide HN1
      | 1, _ => exact unhide HN2)
    clear hW11 hO6 ho6 hall11 HO5 HB5 HG4 HN2 HN1 HB4
    generalize T.take j ++ (T.drop (j + 1)).take 1 ++ (T.drop j).take 1 ++ T.drop (j + 2) = two at *
    generalize T.take j ++ (T.drop (j + 1)).take 1 ++ (T.drop j).take 1 = two2 at *
    generalize T.take j ++ (T.drop (j + 1)).take 1 = two1 at *
    obtain ⟨g, cap, eV, _, hgl, hcell⟩ := owns_cells (unhide HO) (by omega)
    generalize [one, two] = xs at *
    generalize c11.q = qq at *
    generalize c11.k = qk at *
    cases eV
    have HC := hide hcell
    have HGL := hide hgl
    clear hcell hgl HO
    go_wp2
    go_loopw [17] (fun i wr => ∃ k : Nat, k ≤ 2 ∧ i = .int .i64 k ∧ Below w6.heap.size w6 wr) (fun i _ => 2 - (Go.RowKit.intOf i).toNat)
    case atStart => exact ⟨0, by omega, rfl, Below.refl _ _⟩
    case round =>
      obtain ⟨k, hkn, rfl, hbk⟩ := hrel
      by_cases hlt : k < 2
      · have hlti : (k : Int) < 2 := by omega
        have hc := (World.cell?_of_block (hbk.block g (unhide HGL))).trans (unhide HC k hlt)
        have hglk : g < wr.heap.size := Nat.lt_of_lt_of_le (unhide HGL) hbk.size
        have HBK := hide hbk
        have HEK := hide ((unhide HE).below ((unhide HBL).trans (hbk.mono (unhide HBL).size)))
        have HNK := hide (unhide HNX k hlt)
        clear hbk
        generalize xs.getD k [] = x at *
        go_wp2_with fail
        refine (parse_any a0 a1 a2 1 (.inl rfl) x _ (unhide HEK)).mono ?_
        rintro e w7 ⟨rfl, hb7⟩
        have hc7 := (World.cell?_of_block (hb7.block g hglk)).trans hc
        have hgl7 : g < w7.heap.size := Nat.lt_of_lt_of_le hglk hb7.size
        have HEK7 := hide ((unhide HEK).below hb7)
        have HB7 := hide ((unhide HBK).trans (hb7.mono (unhide HBK).size))
        rw [show prs 1 x = .tuple #[I ((rdT 1 x).1 : Int), S (rdT 1 x).2.1, I (ern (rdT 1 x).2.2)] from rfl]
        have HF : Hid (¬ x = T → ¬ ern (rdT 1 x).2.2 = 0) := hide (fun hx => ern_ne 1 x (fun q => hx (unhide HL x j 1 (.inl rfl) (unhide HNK) q)))
        have HG : Hid (¬ x = T → ¬ ern (rdT 2 x).2.2 = 0) := hide (fun hx => ern_ne 2 x (fun q => hx (unhide HL x j 2 (.inr rfl) (unhide HNK) q)))
        generalize ((rdT 1 x).1 : Int) = f1 at *
        generalize (rdT 1 x).2.1 = f2 at *
        generalize ern (rdT 1 x).2.2 = f3 at *
        clear hb7 hc hglk HBK HEK
        go_wp2_with fail
        refine (parse_any a0 a1 a2 2 (.inr rfl) x _ (unhide HEK7)).mono ?_
        rintro e w8 ⟨rfl, hb8⟩
        have hc8 := (World.cell?_of_block (hb8.block g hgl7)).trans hc7
        have hgl8 : g < w8.heap.size := Nat.lt_of_lt_of_le hgl7 hb8.size
        have HB8 := hide ((unhide HB7).trans (hb8.mono (unhide HB7).size))
        rw [show prs 2 x = .tuple #[I ((rdT 2 x).1 : Int), S (rdT 2 x).2.1, I (ern (rdT 2 x).2.2)] from rfl]
        generalize ((rdT 2 x).1 : Int) = g1 at *
        generalize (rdT 2 x).2.1 = g2 at *
        generalize ern (rdT 2 x).2.2 = g3 at *
        clear hb8 hc7 hgl7 HEK7 HB7
        by_cases hx : x = T
        · subst hx
          go_wp2
          go_round
          case measure => simp [Go.RowKit.intOf]; omega
          case rel => exact ⟨k + 1, by omega, by simp, unhide HB8⟩
        · have hf := unhide HF hx
          have hg := unhide HG hx
          have hxb : (x == T) = false := by simpa using hx
          have hfb : (f3 == 0) = false := by simpa using hf
          have hgb : (g3 == 0) = false := by simpa using hg
          go_wp2
          go_round
          case measure => simp [Go.RowKit.intOf]; omega
          case rel => exact ⟨k + 1, by omega, by simp, unhide HB8⟩
      · have hlti : ¬ (k : Int) < 2 := by omega
        have HBK := hide ((unhide HBL).trans (hbk.mono (unhide HBL).size))
        clear hbk
        go_wp2
        go_ret
        exact ⟨rfl, unhide HBK⟩
  · have hji : ¬ (j : Int) < 51 := by omega
    go_wp2
    have HO5 := hide (owns_full (w := w4.alloc (.cells #[S one] 9)) (e := 9) (n := 1) (m := 1) (heap_alloc_new w4 (.cells #[S one] 9)) rfl (by unfold maxLen; omega))
    have HBL := hide ((unhide HB4).alloc (unhide HB4).size (.cells #[S one] 9))
    have HO : Hid ((w4.alloc (.cells #[S one] 9)).ownsRow 0 9 1 (.slice (some ⟨w4.heap.size, 0, none⟩) 1 1) 1 ([one].map S)) := hide (unhide HO5)
    have HNX : Hid (∀ k, k < 1 → Near j T ([one].getD k [])) := hide (fun k hk => by
      match k, hk with
      | 0, _ => exact unhide HN1)
    obtain ⟨g, cap, eV, _, hgl, hcell⟩ := owns_cells (unhide HO) (by omega)
    have HC := hide hcell
    have HGL := hide hgl
    clear hcell hgl HO HO5 HB4 HN1
    generalize [one] = xs at *
    generalize w4.heap.size = g4 at *
    cases eV
    generalize w4.alloc (.cells #[S one] 9) = w5 at *
    go_loopw [17] (fun i wr => ∃ k : Nat, k ≤ 1 ∧ i = .int .i64 k ∧ Below w5.heap.size w5 wr) (fun i _ => 1 - (Go.RowKit.intOf i).toNat)
    case atStart => exact ⟨0, by omega, rfl, Below.refl _ _⟩
    case round =>
      obtain ⟨k, hkn, rfl, hbk⟩ := hrel
      by_cases hlt : k < 1
      · have hlti : (k : Int) < 1 := by omega
        have hc := (World.cell?_of_block (hbk.block g (unhide HGL))).trans (unhide HC k hlt)
        have hglk : g < wr.heap.size := Nat.lt_of_lt_of_le (unhide HGL) hbk.size
        have HBK := hide hbk
        have HEK := hide ((unhide HE).below ((unhide HBL).trans (hbk.mono (unhide HBL).size)))
        have HNK := hide (unhide HNX k hlt)
        clear hbk
        generalize xs.getD k [] = x at *
        go_wp2_with fail
        refine (parse_any a0 a1 a2 1 (.inl rfl) x _ (unhide HEK)).mono ?_
        rintro e w7 ⟨rfl, hb7⟩
        have hc7 := (World.cell?_of_block (hb7.block g hglk)).trans hc
        have hgl7 : g < w7.heap.size := Nat.lt_of_lt_of_le hglk hb7.size
        have HEK7 := hide ((unhide HEK).below hb7)
        have HB7 := hide ((unhide HBK).trans (hb7.mono (unhide HBK).size))
        rw [show prs 1 x = .tuple #[I ((rdT 1 x).1 : Int), S (rdT 1 x).2.1, I (ern (rdT 1 x).2.2)] from rfl]
        have HF : Hid (¬ x = T → ¬ ern (rdT 1 x).2.2 = 0) := hide (fun hx => ern_ne 1 x (fun q => hx (unhide HL x j 1 (.inl rfl) (unhide HNK) q)))
        have HG : Hid (¬ x = T → ¬ ern (rdT 2 x).2.2 = 0) := hide (fun hx => ern_ne 2 x (fun q => hx (unhide HL x j 2 (.inr rfl) (unhide HNK) q)))
        generalize ((rdT 1 x).1 : Int) = f1 at *
        generalize (rdT 1 x).2.1 = f2 at *
        generalize ern (rdT 1 x).2.2 = f3 at *
        clear hb7 hc hglk HBK HEK
        go_wp2_with fail
        refine (parse_any a0 a1 a2 2 (.inr rfl) x _ (unhide HEK7)).mono ?_
        rintro e w8 ⟨rfl, hb8⟩
        have hc8 := (World.cell?_of_block (hb8.block g hgl7)).trans hc7
        have hgl8 : g < w8.heap.size := Nat.lt_of_lt_of_le hgl7 hb8.size
        have HB8 := hide ((unhide HB7).trans (hb8.mono (unhide HB7).size))
        rw [show prs 2 x = .tuple #[I ((rdT 2 x).1 : Int), S (rdT 2 x).2.1, I (ern (rdT 2 x).2.2)] from rfl]
        generalize ((rdT 2 x).1 : Int) = g1 at *
        generalize (rdT 2 x).2.1 = g2 at *
        generalize ern (rdT 2 x).2.2 = g3 at *
        clear hb8 hc7 hgl7 HEK7 HB7
        by_cases hx : x = T
        · subst hx
          go_wp2
          go_round
          case measure => simp [Go.RowKit.intOf]; omega
          case rel => exact ⟨k + 1, by omega, by simp, unhide HB8⟩
        · have hf := unhide HF hx
          have hg := unhide HG hx
          have hxb : (x == T) = false := by simpa using hx
          have hfb : (f3 == 0) = false := by simpa using hf
          have hgb : (g3 == 0) = false := by simpa using hg
          go_wp2
          go_round
          case measure => simp [Go.RowKit.intOf]; omega
          case rel => exact ⟨k + 1, by omega, by simp, unhide HB8⟩
      · have hlti : ¬ (k : Int) < 1 := by omega
        have HBK := hide ((unhide HBL).trans (hbk.mono (unhide HBL).size))
        clear hbk
        go_wp2
        go_ret
        exact ⟨rfl, unhide HBK⟩
end Go.Proofs.YtbeionikiiccpaaDoor
