import Derived.Test.YthddilflldkmfaaDoorThrp
namespace Go.Proofs.YthddilflldkmfaaDoor
open Go.RowKit Go.Lib
set_option maxHeartbeats 1000000 in
set_option maxRecDepth 8000 in
theorem through_walk (a : Option Addr) (n cap : Nat) (os : List Raw) (s t : List UInt8) (w : World) (hp : Its w a n os) (hn : n ≤ 140737488351232) (hps : ∀ j, (os.getD j it0).t.length ≤ 140737488351232) (hft : ∀ j, (os.getD j it0).Fit) (hg : Lay w) (hs : s.length ≤ 9223372036854775807) (ht : t.length ≤ 9223372036854775807) :
    Calls Tryd.prog 5 #[.slice a n cap, .string ⟨s.toArray⟩, .string ⟨t.toArray⟩] w fun e w' => e = .returned (.bool true) ∧ Below w.heap.size w w' := by
  have HW := hide (fun W (hb : Below w.heap.size w W) => weight_any a n cap os W (hp.below hb) hn hps)
  have hwl := wgt_le os
  have a1 := addN_bd (wgt os) (wgt os)
  have a2 := addN_bd s.length t.length
  have A1 := hide (fun W => add_any (wgt os) (wgt os) W (by omega) (by omega))
  have A2 := hide (fun W => add_any s.length t.length W hs ht)
  have A3 := hide (fun W => add_any (addN (wgt os) (wgt os)) (addN s.length t.length) W (by omega) (by omega))
  have HB := hide (show addN (addN (wgt os) (wgt os)) (addN s.length t.length) ≤ 2147483647 → wgt os ≤ 2147483647 ∧ s.length ≤ 2147483647 ∧ t.length ≤ 2147483647 from fun h => by
    have e1 := addN_le h
    have e2 := addN_le (n := wgt os) (m := wgt os) (by omega)
    have e3 := addN_le (n := s.length) (m := t.length) (by omega)
    omega)
  generalize addN (addN (wgt os) (wgt os)) (addN s.length t.length) = N at *
  generalize addN (wgt os) (wgt os) = N1 at *
  generalize addN s.length t.length = N2 at *
  have HP := hide hp
  have HG := hide hg
  clear hp hg
  go_enter Tryd.func5, Tryd.ntmps5
  go_wp2_with fail
  refine (unhide HW _ (Below.refl _ _)).mono ?_
  rintro e w1 ⟨rfl, hb1⟩
  go_wp2_with fail
  refine (unhide HW _ hb1).mono ?_
  rintro e w2 ⟨rfl, hb2'⟩
  have hb2 := hb1.trans (hb2'.mono hb1.size)
  clear hb1 hb2'
  go_wp2_with fail
  refine (unhide A1 _).mono ?_
  rintro e w2' ⟨rfl, rfl⟩
  go_wp2_with fail
  refine (unhide A2 _).mono ?_
  rintro e w2' ⟨rfl, rfl⟩
  go_wp2_with fail
  refine (unhide A3 _).mono ?_
  rintro e w2' ⟨rfl, rfl⟩
  by_cases hN : N ≤ 2147483647
  case neg =>
    have hd : decide ((2147483647 : Int) < (N : Int)) = true := by simp; omega
    go_wp2
    go_ret
    exact ⟨rfl, hb2⟩
  have hd : decide ((2147483647 : Int) < (N : Int)) = false := by simp; omega
  have HB2 := hide (unhide HB hN)
  clear HB HW A1 A2 A3 a1 a2 hN
  go_wp2_with fail
  refine (awake_any _).mono ?_
  rintro e w3 ⟨rfl, hb3'⟩
  have hb3 := hb2.trans (hb3'.mono hb2.size)
  clear hb2 hb3' hd
  go_wp2_with fail
  refine (newwriter_any _).mono ?_
  rintro e w4 ⟨rfl, hw4, hb4'⟩
  have hb4 := hb3.trans (hb4'.mono hb3.size)
  have hz := hb3.size
  generalize w3.heap.size = c8 at *
  have HW4 := hide hw4
  clear hw4 hb3 hb4'
  have hlay := hide (wgt_sum os (unhide HB2).1)
  go_wp2_with fail
  go_loopw [9] (fun i wr => ∃ (k : Nat) (v : Value), k ≤ n ∧ i = .int .i64 k ∧ WAt c8 v (lays ((os.take k).map Raw.itm)) 0 wr ∧ (∀ q, v.ownBlock = some q → w.heap.size ≤ q) ∧ Below w.heap.size w wr) (fun i _ => n - (Go.RowKit.intOf i).toNat)
  case atStart => exact ⟨0, _, by omega, rfl, unhide HW4, (fun q hq => by cases hq), hb4⟩
  case round =>
    obtain ⟨k, v, hkn, rfl, hwk, hvo, hbr⟩ := hrel
    by_cases hlt : k < n
    · obtain ⟨p, o, rfl, hpl, hc0, hc1, hc2, hc3, hc4⟩ := ((unhide HP).below hbr).at hlt
      have hfk := hft k
      have HX := hide (show lays ((os.take (k + 1)).map Raw.itm) = lays ((os.take k).map Raw.itm) ++ (os.getD k it0).itm.laid ∧ (lays ((os.take k).map Raw.itm)).length ≤ 2147483647 ∧ (os.getD k it0).t.length ≤ 2147483647 from ⟨lays_take os k (by have := (unhide HP).1; omega), by have h1 := lays_take_le os k; have h2 := (unhide hlay).1; have h3 := (unhide HB2).1; omega, wgt_text os (unhide HB2).1 k⟩)
      have hX := hps k
      generalize os.getD k it0 = x at *
      have HC := hide (writes_any x c8 v _ wr hfk hwk (by have := (unhide HX).2.1; have := (unhide HX).2.2; omega))
      have hlt' : (k : Int) < (n : Int) := by omega
      unfold Raw.val at HC
      clear hwk hfk
      go_wp2_with fail
      refine (unhide HC).mono ?_
      rintro e w5 ⟨rfl, hto⟩
      have HT := hide hto
      clear hto
      go_wp2
      go_roundw
      case rel =>
        obtain ⟨v', a, o, f⟩ := unhide HT
        refine ⟨k + 1, v', by omega, by go_num, by rw [(unhide HX).1]; exact a, fun q hq => ?_, o.far hbr (fun q hq => ?_)⟩
        · rcases f q hq with r | r
          · exact hvo q r
          · exact Nat.le_trans hbr.size r
        · rcases hq with rfl | hq
          · exact hz
          · exact hvo q hq
      case measure => simp [Go.RowKit.intOf]; omega
    · have hkn' : k = n := by omega
      have e : os.take k = os := List.take_of_length_le (by have := (unhide HP).1; omega)
      rw [e] at hwk
      have HWk := hide hwk
      have hd : decide (k < n) = false := by simp; omega
      clear hlt hkn' hwk
      go_wp2_with fail
      refine (wdone_ok _ _ _ _ (unhide HWk)).mono ?_
      rintro e w6 ⟨rfl, hb6'⟩
      have hb6 := hbr.trans (hb6'.mono hbr.size)
      clear hbr hb6' HWk
      generalize hY : lays (os.map Raw.itm) = Y at *
      go_wp2_with fail
      refine (newreader_any Y w6).mono ?_
      rintro e w7 ⟨b1, g1, cap1, rfl, x1, y1, hr1, hb7⟩
      have hB7 := hb6.trans (hb7.mono hb6.size)
      have HR1 := hide hr1
      clear hr1
      have hc : Y.length + s.length ≤ 9223372036854775807 := by
        have h1 := (unhide HB2).2.1
        have h2 := (unhide HB2).1
        have h3 := (unhide hlay).1
        omega
      have hc2 : (⟨Y.toArray⟩ : ByteArray).size + (⟨s.toArray⟩ : ByteArray).size ≤ maxLen := by
        unfold maxLen
        simpa [ByteArray.size] using hc
      go_wp2_with fail
      rw [show (⟨Y.toArray⟩ : ByteArray) ++ ⟨s.toArray⟩ = ⟨(Y ++ s).toArray⟩ from ByteArray.ext (by simp)]
      refine (newreader_any (Y ++ s) w7).mono ?_
      rintro e w8 ⟨b2, g2, cap2, rfl, x2, y2, hr2, hb8⟩
      have hB8 := hB7.trans (hb8.mono hB7.size)
      have HR2 := hide hr2
      clear hr2 hc hc2
      have hYl : Y.length ≤ 9223372036854775807 := by
        have h2 := (unhide HB2).1
        have h3 := (unhide hlay).1
        omega
      go_wp2_with fail
      have hcut : (⟨Y.toArray⟩ : ByteArray).extract 0 (max ((Y.length : Int) - 1) 0).toNat = ⟨Y.dropLast.toArray⟩ := by
        have e : (max ((Y.length : Int) - 1) 0).toNat = Y.length - 1 := by omega
        rw [e]
        apply ByteArray.ext
        simp [ByteArray.extract, ByteArray.copySlice, List.dropLast_eq_take]
      rw [hcut]
      clear hcut hYl
      refine (newreader_any Y.dropLast w8).mono ?_
      rintro e w9 ⟨b3, g3, cap3, rfl, x3, y3, hr3, hb9⟩
      have hB9 := hB8.trans (hb9.mono hB8.size)
      have HR3 := hide hr3
      clear hr3
      go_wp2_with fail
      refine (newreader_any t w9).mono ?_
      rintro e w10 ⟨b4, g4, cap4, rfl, x4, y4, hr4, hb10⟩
      have hB10 := hB9.trans (hb10.mono hB9.size)
      have HR4 := hide hr4
      clear hr4
      go_wp2_with fail
      refine (newwriter_any w10).mono ?_
      rintro e w11 ⟨rfl, hwc, hb11⟩
      have hB11 := hB10.trans (hb11.mono hB10.size)
      have HWc := hide hwc
      clear hwc
      have HF := hide (show Five ⟨b1, g1, b2, g2, b3, g3, b4, g4, w10.heap.size⟩ (.slice none 0 0) Y (Y ++ s) Y.dropLast t [] 0 0 0 0 0 w11 from five_new (unhide HR1) x2 y2 (unhide HR2) hb8 x3 y3 (unhide HR3) hb9 x4 y4 (unhide HR4) hb10 (unhide HWc) hb11)
      have HSP := hide (show (∀ k ∈ (⟨b1, g1, b2, g2, b3, g3, b4, g4, w10.heap.size⟩ : Spots).all, w.heap.size ≤ k) ∧ w.heap.size ≤ w10.heap.size from by
        have e6 := hb6.size
        have e7 := hB7.size
        have e8 := hB8.size
        have e9 := hB9.size
        refine ⟨fun k hk => ?_, hB10.size⟩
        simp only [Spots.all, List.mem_cons, List.not_mem_nil, or_false] at hk
        rcases hk with rfl | rfl | rfl | rfl | rfl | rfl | rfl | rfl <;> omega)
      clear HR1 HR2 HR3 HR4 HWc hB10 hB9 hB8 hB7 hb6 hb7 hb8 hb9 hb10 hb11 x1 x2 x3 x4 y1 y2 y3 y4
      generalize w10.heap.size = c16 at *
      go_wp2_with fail
      go_loopw [17] (fun i wr => ∃ (k : Nat) (v : Value) (R3 R4 X : List UInt8) (E3 E4 F : Nat), k ≤ n ∧ i = .int .i64 k ∧ Five ⟨b1, g1, b2, g2, b3, g3, b4, g4, c16⟩ v (lays ((os.drop k).map Raw.itm)) (lays ((os.drop k).map Raw.itm) ++ s) R3 R4 X 0 0 E3 E4 F wr ∧ (Y = [] ∨ Short ((os.drop k).map Raw.itm) R3 E3) ∧ Redo t R4 E4 X F ∧ X.length + R4.length ≤ t.length + 8 * k ∧ R3.length ≤ 2147483647 ∧ (∀ q, v.ownBlock = some q → w.heap.size ≤ q) ∧ Below w.heap.size w wr) (fun i _ => n - (Go.RowKit.intOf i).toNat)
      case atStart =>
        refine ⟨0, .slice none 0 0, Y.dropLast, t, [], 0, 0, 0, by omega, rfl, ?_, ?_, .inr ⟨rfl, rfl, rfl⟩, by simp, ?_, (fun q hq => by cases hq), hB11⟩
        · rw [List.drop_zero, hY]
          exact unhide HF
        · by_cases hY0 : Y = []
          · exact .inl hY0
          · refine .inr (.inr ⟨rfl, ?_, ?_⟩)
            · rw [List.drop_zero, hY]
              exact hY0
            · rw [List.drop_zero, hY]
        · have h2 := (unhide HB2).1
          have h3 := (unhide hlay).1
          simp
          omega
      case round =>
        clear hvo HW4
        obtain ⟨k, v, R3, R4, X, E3, E4, F, hkn, rfl, hF, hsh, hrd, hlen, h3l, hvo2, hbr⟩ := hrel
        by_cases hlt : k < n
        · obtain ⟨p, o, rfl, hpl, hc0, hc1, hc2, hc3, hc4⟩ := ((unhide HP).below hbr).at hlt
          have hfk := hft k
          have HX := hide (show lays ((os.drop k).map Raw.itm) = (os.getD k it0).itm.laid ++ lays ((os.drop (k + 1)).map Raw.itm) ∧ (lays ((os.drop k).map Raw.itm)).length ≤ 2147483647 ∧ ((os.drop k).map Raw.itm) = (os.getD k it0).itm :: ((os.drop (k + 1)).map Raw.itm) from by
            have hkl : k < os.length := by have := (unhide HP).1; omega
            have e : (os.drop k).map Raw.itm = (os.getD k it0).itm :: ((os.drop (k + 1)).map Raw.itm) := by rw [drop_at' os k hkl]; rfl
            refine ⟨by rw [e, lays_cons], ?_, e⟩
            have h1 := lays_drop_le os k
            have h2 := (unhide HB2).1
            have h3 := (unhide hlay).1
            rw [hY] at h1
            omega)
          obtain ⟨x, hxx⟩ : ∃ x, x = os.getD k it0 := ⟨_, rfl⟩
          rw [← hxx] at hfk HX hc0 hc1 hc2 hc3 hc4
          have HIT := hide (fun W (h : Below w.heap.size w W) => ((unhide HP).below h).at hlt)
          rw [← hxx] at HIT
          clear hxx
          have hok := Raw.ok hfk
          have HC1 := hide (fun W (off cap : Nat) (h : RAt b1 g1 off cap (lays ((os.drop k).map Raw.itm)) 0 W) => reads_any x b1 g1 off cap _ 0 W hfk h (by have := (unhide HX).2.1; omega))
          rw [(unhide HX).1, (x.itm.go_laid hok _).1, (x.itm.go_laid hok _).2] at HC1
          have HC2 := hide (fun W (off cap : Nat) (h : RAt b2 g2 off cap (lays ((os.drop k).map Raw.itm) ++ s) 0 W) => reads_any x b2 g2 off cap _ 0 W hfk h (by have := (unhide HX).2.1; have := (unhide HB2).2.1; rw [List.length_append]; omega))
          rw [(unhide HX).1, List.append_assoc, (x.itm.go_laid hok _).1, (x.itm.go_laid hok _).2] at HC2
          have HC3 := hide (fun W (off cap : Nat) (h : RAt b3 g3 off cap R3 E3 W) => reads_any x b3 g3 off cap _ E3 W hfk h (by omega))
          have HC4 := hide (fun W (off cap : Nat) (h : RAt b4 g4 off cap R4 E4 W) (hw : WAt c16 v X F W) (q1 : b4 ≠ c16) (q2 : v.ownBlock ≠ some b4) (q3 : g4 ≠ c16) (q4 : v.ownBlock ≠ some g4) => again_any x b4 g4 off cap c16 v R4 X E4 F W hfk h hw (by have := (unhide HB2).2.2; have := (unhide hlay).2; have := (unhide HB2).1; have := (unhide HP).1; omega) (by have := (unhide HB2).2.2; have := (unhide hlay).2; have := (unhide HB2).1; have := (unhide HP).1; omega) q1 q2 q3 q4)
          have hlt' : (k : Int) < (n : Int) := by omega
          have HFk := hide hF
          rw [(unhide HX).1, List.append_assoc] at HFk
          unfold Raw.val at HC1 HC2 HC3 HC4
          generalize hZ : lays ((os.drop (k + 1)).map Raw.itm) = Z at *
          have HZ := hide hZ
          clear hF hZ
          have HQ := hide (And.intro hsh (And.intro hrd (And.intro hlen h3l)))
          clear hsh hrd hlen h3l
          go_wp2_with fail
          obtain ⟨o1, p1, f1⟩ := (unhide HFk).r1
          refine (unhide HC1 _ _ _ f1).mono ?_
          rintro e w12 ⟨rfl, ht1⟩
          have HF1 := hide ((unhide HFk).step1 ht1)
          have HB12 := hide (ht1.2.far hbr (fun q hq => (unhide HSP).1 q (by rw [hq]; simp [Spots.all])))
          clear HFk HC1 f1 ht1 hc0 hc1 hc2 hc3 hc4
          have hit := unhide HIT _ (unhide HB12)
          obtain ⟨pq, oq, eq, _, hc0, hc1, hc2, hc3, hc4⟩ := hit
          simp only [Option.some.injEq, Addr.mk.injEq, and_true] at eq
          obtain ⟨rfl, rfl⟩ := eq
          go_wp2_with fail
          obtain ⟨o2, p2, f2⟩ := (unhide HF1).r2
          refine (unhide HC2 _ _ _ f2).mono ?_
          rintro e w13 ⟨rfl, ht2⟩
          have HF2 := hide ((unhide HF1).step2 ht2)
          have HB13 := hide (ht2.2.far (unhide HB12) (fun q hq => (unhide HSP).1 q (by rw [hq]; simp [Spots.all])))
          clear HF1 HC2 f2 ht2 hc0 hc1 hc2 hc3 hc4
          have hit := unhide HIT _ (unhide HB13)
          obtain ⟨pq, oq, eq, _, hc0, hc1, hc2, hc3, hc4⟩ := hit
          simp only [Option.some.injEq, Addr.mk.injEq, and_true] at eq
          obtain ⟨rfl, rfl⟩ := eq
          go_wp2_with fail
          obtain ⟨o3, p3, f3⟩ := (unhide HF2).r3
          refine (unhide HC3 _ _ _ f3).mono ?_
          rintro e w14 ⟨rfl, ht3⟩
          have HF3 := hide ((unhide HF2).step3 ht3)
          have HB14 := hide (ht3.2.far (unhide HB13) (fun q hq => (unhide HSP).1 q (by rw [hq]; simp [Spots.all])))
          clear HF2 HC3 f3 ht3 hc0 hc1 hc2 hc3 hc4
          have hit := unhide HIT _ (unhide HB14)
          obtain ⟨pq, oq, eq, _, hc0, hc1, hc2, hc3, hc4⟩ := hit
          simp only [Option.some.injEq, Addr.mk.injEq, and_true] at eq
          obtain ⟨rfl, rfl⟩ := eq
          have hnd := (unhide HF3).nd
          simp only [Spots.all, List.nodup_cons, List.mem_cons, List.not_mem_nil, or_false, not_or] at hnd
          have q1 : b4 ≠ c16 := fun e => hnd.1.2.2.2.2.2.2.1 e.symm
          have q3 : g4 ≠ c16 := fun e => hnd.1.2.2.2.2.2.2.2 e.symm
          have q2 := (unhide HF3).own b4 (by simp [Spots.all])
          have q4 := (unhide HF3).own g4 (by simp [Spots.all])
          have HC5 := hide (fun off cap h => unhide HC4 w14 off cap h (unhide HF3).w q1 q2 q3 q4)
          clear hnd q1 q2 q3 q4 HC4
          go_wp2_with fail
          obtain ⟨o4, p4, f4⟩ := (unhide HF3).r4
          refine (unhide HC5 _ _ f4).mono ?_
          rintro e w15 ⟨rfl, ht4⟩
          obtain ⟨v', hF4, hfr⟩ := (unhide HF3).step4 ht4
          have HF4 := hide hF4
          have HFR := hide hfr
          have HB15 : Hid (Below w.heap.size w w15) := by
            obtain ⟨_, _, _, o, _⟩ := ht4
            exact hide (o.far (unhide HB14) (fun q hq => by
              rcases hq with rfl | rfl | hq
              · exact (unhide HSP).1 _ (by simp [Spots.all])
              · exact (unhide HSP).2
              · exact hvo2 q hq))
          clear HF3 HC5 f4 ht4 hF4 hfr hc0 hc1 hc2 hc3 hc4
          go_wp2
          go_roundw
          case rel =>
            obtain ⟨hsh, hrd, hlen, h3l⟩ := unhide HQ
            refine ⟨k + 1, v', (x.itm.go R3 E3).1, (x.itm.go R4 E4).1, (x.itm.put R4 E4 X F).1, (x.itm.go R3 E3).2, (x.itm.go R4 E4).2, (x.itm.put R4 E4 X F).2, by omega, by go_num, ?_, ?_, Redo.step hok hrd, ?_, ?_, fun q hq => ?_, unhide HB15⟩
            · rw [unhide HZ]
              exact unhide HF4
            · rcases hsh with h | h
              · exact .inl h
              · rw [(unhide HX).2.2] at h
                exact .inr (Short.step hok h)
            · have := Itm.put_len x.itm hok R4 X E4 F
              omega
            · have := Itm.go_len x.itm R3 E3
              omega
            · rcases unhide HFR q hq with h | h
              · exact hvo2 q h
              · exact Nat.le_trans (unhide HB14).size h
          case measure => simp [Go.RowKit.intOf]; omega
        · have e : os.drop k = [] := List.drop_of_length_le (by have := (unhide HP).1; omega)
          rw [e] at hF hsh
          have hl0 : lays (([] : List Raw).map Raw.itm) = [] := rfl
          rw [hl0, List.nil_append] at hF
          have hd : decide (k < n) = false := by simp; omega
          have hE3 : Hid (Y = [] ∨ rDone R3 E3 = 22) := hide (hsh.imp id (fun h => by rw [Short.stop h]; rfl))
          have hRd := hide (fun h => Redo.stop hrd h)
          have HF := hide hF
          have HBr := hide hbr
          have HLy := hide (fun W (h : Below w.heap.size w W) => (unhide HG).below h)
          have hsl := (unhide HB2).2.1
          clear hF hsh hrd hlen h3l hvo2 hbr e hl0 hlt
          by_cases hs0 : s = []
          · subst hs0
            have hD2 : rDone [] 0 = 0 := rfl
            go_wp2_with fail
            obtain ⟨o1, p1, f1⟩ := (unhide HF).r1
            refine (rdone_any _ _ _ _ _ _ _ f1 (unhide HLy _ (unhide HBr))).mono ?_
            rintro e w20 ⟨rfl, k20⟩
            rw [show rDone [] 0 = 0 from rfl]
            have HF20 := hide ((unhide HF).below k20)
            have B20 := hide ((unhide HBr).trans (k20.mono (unhide HBr).size))
            clear k20 f1 HF HBr
            go_wp2_with fail
            obtain ⟨o1, p1, f1⟩ := (unhide HF20).r1
            refine (rleft_any _ _ _ _ _ _ _ f1).mono ?_
            rintro e w20' ⟨rfl, rfl⟩
            clear f1
            go_wp2_with fail
            obtain ⟨o2, p2, f2⟩ := (unhide HF20).r2
            refine (rdone_any _ _ _ _ _ _ _ f2 (unhide HLy _ (unhide B20))).mono ?_
            rintro e w21 ⟨rfl, k21⟩
            rw [hD2]
            have HF21 := hide ((unhide HF20).below k21)
            have B21 := hide ((unhide B20).trans (k21.mono (unhide B20).size))
            clear k21 f2 HF20 B20
            go_wp2_with fail
            obtain ⟨o2, p2, f2⟩ := (unhide HF21).r2
            refine (rleft_any _ _ _ _ _ _ _ f2).mono ?_
            rintro e w21' ⟨rfl, rfl⟩
            clear f2
            by_cases hY0 : Y = []
            · subst hY0
              clear hE3
              go_wp2_with fail
              refine (wdone_any _ _ _ _ _ (unhide HF21).w (unhide HLy _ (unhide B21))).mono ?_
              rintro e w23 ⟨rfl, k23⟩
              have HF23 := hide ((unhide HF21).below k23)
              have B23 := hide ((unhide B21).trans (k23.mono (unhide B21).size))
              clear k23 HF21 B21
              go_wp2_with fail
              obtain ⟨o4, p4, f4⟩ := (unhide HF23).r4
              refine (rdone_any _ _ _ _ _ _ _ f4 (unhide HLy _ (unhide B23))).mono ?_
              rintro e w24 ⟨rfl, k24⟩
              have B24 := hide ((unhide B23).trans (k24.mono (unhide B23).size))
              clear k24 f4 HF23 B23
              by_cases hr4 : rDone R4 E4 = 0
              · obtain ⟨hF0, hX0⟩ := unhide hRd hr4
                rw [hr4]
                subst hF0 hX0
                rw [show wDone X 0 = (X, 0) from rfl]
                clear hr4 hRd
                go_wp2
                go_ret
                exact ⟨rfl, unhide B24⟩
              · have hr5 : ¬ ((rDone R4 E4 : Nat) : Int) = 0 := by omega
                generalize rDone R4 E4 = D4 at *
                generalize wDone X F = WD at *
                clear hr4 hRd
                go_wp2
                go_ret
                exact ⟨rfl, unhide B24⟩
            · have hYe : (Y == []) = false := by simpa using hY0
              have hE3' := hide ((unhide hE3).resolve_left hY0)
              clear hE3 hY0
              go_wp2_with fail
              obtain ⟨o3, p3, f3⟩ := (unhide HF21).r3
              refine (rdone_any _ _ _ _ _ _ _ f3 (unhide HLy _ (unhide B21))).mono ?_
              rintro e w22 ⟨rfl, k22⟩
              rw [unhide hE3']
              have HF22 := hide ((unhide HF21).below k22)
              have B22 := hide ((unhide B21).trans (k22.mono (unhide B21).size))
              clear k22 f3 HF21 B21
              go_wp2_with fail
              refine (wdone_any _ _ _ _ _ (unhide HF22).w (unhide HLy _ (unhide B22))).mono ?_
              rintro e w23 ⟨rfl, k23⟩
              have HF23 := hide ((unhide HF22).below k23)
              have B23 := hide ((unhide B22).trans (k23.mono (unhide B22).size))
              clear k23 HF22 B22
              go_wp2_with fail
              obtain ⟨o4, p4, f4⟩ := (unhide HF23).r4
              refine (rdone_any _ _ _ _ _ _ _ f4 (unhide HLy _ (unhide B23))).mono ?_
              rintro e w24 ⟨rfl, k24⟩
              have B24 := hide ((unhide B23).trans (k24.mono (unhide B23).size))
              clear k24 f4 HF23 B23
              by_cases hr4 : rDone R4 E4 = 0
              · obtain ⟨hF0, hX0⟩ := unhide hRd hr4
                rw [hr4]
                subst hF0 hX0
                rw [show wDone X 0 = (X, 0) from rfl]
                clear hr4 hRd
                go_wp2
                go_ret
                exact ⟨rfl, unhide B24⟩
              · have hr5 : ¬ ((rDone R4 E4 : Nat) : Int) = 0 := by omega
                generalize rDone R4 E4 = D4 at *
                generalize wDone X F = WD at *
                clear hr4 hRd
                go_wp2
                go_ret
                exact ⟨rfl, unhide B24⟩
          · have hse : (s == []) = false := by simpa using hs0
            have hD2 : rDone s 0 = 23 := by
              unfold rDone
              simp [hs0]
            clear hs0
            go_wp2_with fail
            obtain ⟨o1, p1, f1⟩ := (unhide HF).r1
            refine (rdone_any _ _ _ _ _ _ _ f1 (unhide HLy _ (unhide HBr))).mono ?_
            rintro e w20 ⟨rfl, k20⟩
            rw [show rDone [] 0 = 0 from rfl]
            have HF20 := hide ((unhide HF).below k20)
            have B20 := hide ((unhide HBr).trans (k20.mono (unhide HBr).size))
            clear k20 f1 HF HBr
            go_wp2_with fail
            obtain ⟨o1, p1, f1⟩ := (unhide HF20).r1
            refine (rleft_any _ _ _ _ _ _ _ f1).mono ?_
            rintro e w20' ⟨rfl, rfl⟩
            clear f1
            go_wp2_with fail
            obtain ⟨o2, p2, f2⟩ := (unhide HF20).r2
            refine (rdone_any _ _ _ _ _ _ _ f2 (unhide HLy _ (unhide B20))).mono ?_
            rintro e w21 ⟨rfl, k21⟩
            rw [hD2]
            have HF21 := hide ((unhide HF20).below k21)
            have B21 := hide ((unhide B20).trans (k21.mono (unhide B20).size))
            clear k21 f2 HF20 B20
            go_wp2_with fail
            obtain ⟨o2, p2, f2⟩ := (unhide HF21).r2
            refine (rleft_any _ _ _ _ _ _ _ f2).mono ?_
            rintro e w21' ⟨rfl, rfl⟩
            clear f2
            by_cases hY0 : Y = []
            · subst hY0
              clear hE3
              go_wp2_with fail
              refine (wdone_any _ _ _ _ _ (unhide HF21).w (unhide HLy _ (unhide B21))).mono ?_
              rintro e w23 ⟨rfl, k23⟩
              have HF23 := hide ((unhide HF21).below k23)
              have B23 := hide ((unhide B21).trans (k23.mono (unhide B21).size))
              clear k23 HF21 B21
              go_wp2_with fail
              obtain ⟨o4, p4, f4⟩ := (unhide HF23).r4
              refine (rdone_any _ _ _ _ _ _ _ f4 (unhide HLy _ (unhide B23))).mono ?_
              rintro e w24 ⟨rfl, k24⟩
              have B24 := hide ((unhide B23).trans (k24.mono (unhide B23).size))
              clear k24 f4 HF23 B23
              by_cases hr4 : rDone R4 E4 = 0
              · obtain ⟨hF0, hX0⟩ := unhide hRd hr4
                rw [hr4]
                subst hF0 hX0
                rw [show wDone X 0 = (X, 0) from rfl]
                clear hr4 hRd
                go_wp2
                go_ret
                exact ⟨rfl, unhide B24⟩
              · have hr5 : ¬ ((rDone R4 E4 : Nat) : Int) = 0 := by omega
                generalize rDone R4 E4 = D4 at *
                generalize wDone X F = WD at *
                clear hr4 hRd
                go_wp2
                go_ret
                exact ⟨rfl, unhide B24⟩
            · have hYe : (Y == []) = false := by simpa using hY0
              have hE3' := hide ((unhide hE3).resolve_left hY0)
              clear hE3 hY0
              go_wp2_with fail
              obtain ⟨o3, p3, f3⟩ := (unhide HF21).r3
              refine (rdone_any _ _ _ _ _ _ _ f3 (unhide HLy _ (unhide B21))).mono ?_
              rintro e w22 ⟨rfl, k22⟩
              rw [unhide hE3']
              have HF22 := hide ((unhide HF21).below k22)
              have B22 := hide ((unhide B21).trans (k22.mono (unhide B21).size))
              clear k22 f3 HF21 B21
              go_wp2_with fail
              refine (wdone_any _ _ _ _ _ (unhide HF22).w (unhide HLy _ (unhide B22))).mono ?_
              rintro e w23 ⟨rfl, k23⟩
              have HF23 := hide ((unhide HF22).below k23)
              have B23 := hide ((unhide B22).trans (k23.mono (unhide B22).size))
              clear k23 HF22 B22
              go_wp2_with fail
              obtain ⟨o4, p4, f4⟩ := (unhide HF23).r4
              refine (rdone_any _ _ _ _ _ _ _ f4 (unhide HLy _ (unhide B23))).mono ?_
              rintro e w24 ⟨rfl, k24⟩
              have B24 := hide ((unhide B23).trans (k24.mono (unhide B23).size))
              clear k24 f4 HF23 B23
              by_cases hr4 : rDone R4 E4 = 0
              · obtain ⟨hF0, hX0⟩ := unhide hRd hr4
                rw [hr4]
                subst hF0 hX0
                rw [show wDone X 0 = (X, 0) from rfl]
                clear hr4 hRd
                go_wp2
                go_ret
                exact ⟨rfl, unhide B24⟩
              · have hr5 : ¬ ((rDone R4 E4 : Nat) : Int) = 0 := by omega
                generalize rDone R4 E4 = D4 at *
                generalize wDone X F = WD at *
                clear hr4 hRd
                go_wp2
                go_ret
                exact ⟨rfl, unhide B24⟩
end Go.Proofs.YthddilflldkmfaaDoor
