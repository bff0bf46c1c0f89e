import Derived.Test.YtbmcaejbfjpmiaaDoorRpr
import Derived.Test.YtbmcaejbfjpmiaaDoorLnt
namespace Go.Proofs.YtbmcaejbfjpmiaaDoor
open Go.RowKit Go.Lib
/-- append(nil, fields...). -/
theorem appendF {ops : Array Oper} {rest : List Oper} {o : Oper} {a : Act} {w : World} {Q : Exit → Act → World → Prop} (hgd : o.guard = none) (s x : Operand)
    (ho : o.op = .call { callee := .builtin .append, args := #[s, x], argTypes := #[31, 31] }) (hs : a.eval s = .slice none 0 0)
    (g n cap : Nat) (F : List Fl) (hx : a.eval x = .slice (some ⟨g, 0, none⟩) n cap) (hf : Fls w (some ⟨g, 0, none⟩) n F) (hlen : n ≤ 2000000000000)
    (h : ∀ v' w', OwnF w.heap.size v' F w w' → wpList Tryd.prog ops Q rest (a.put o.dst v') w') : wpList Tryd.prog ops Q (o :: rest) a w := by
  obtain ⟨i0, hi, hz0, hz1, hz2⟩ := info_parts info44
  refine wpList_append_own w hgd s x 31 ho w.heap.size 44 i0 (.agg #[.string ⟨#[]⟩, .string ⟨#[]⟩]) 2 32 Tryd.underlying31 hi hz0 hz1 hz2 rfl (by decide) (.slice none 0 0) 0 [] hs (World.ownsRow_nil _ _ _ _) ⟨g, 0, none⟩ n cap (cellsF F) hx (by rw [cellsF_len, hf.1]) ?_ (cellsF_one F) (by unfold maxLen; omega) (by omega) (Nat.le_refl _) ?_
  · intro j v hv
    obtain ⟨k, hk, hc⟩ := cellsF_get _ _ _ hv
    rw [← hf.1] at hk
    obtain ⟨p, q, e, hcells⟩ := hf.2 (by omega)
    cases e
    have hadd : ∀ i, (⟨g, 0, none⟩ : Addr).add i = ⟨g, 0 + i, none⟩ := fun i => by unfold Addr.add; split <;> simp_all
    rcases hc with ⟨rfl, rfl⟩ | ⟨rfl, rfl⟩
    · rw [hadd]; exact (hcells k hk).1
    · rw [hadd, ← Nat.add_assoc]; exact (hcells k hk).2
  · intro v' w' ho' hg _
    refine h v' w' ⟨?_, (Below.refl _ _).grown hg (Nat.le_refl _) (fun k hk => by cases hk), hg.size⟩
    rw [Nat.zero_add, List.nil_append, hf.1] at ho'
    exact ho'
theorem tell2_form (r : Rs (List UInt8)) : ∃ (x : List UInt8) (e : Nat), tell2 r = .tuple #[S x, .int .i64 (e : Nat)] := by
  cases r with
  | ok l => exact ⟨l, 0, rfl⟩
  | error q => obtain ⟨e, p⟩ := q; exact ⟨[], e, rfl⟩
theorem siz_drop_le (fs : List Fl) (m : Nat) : siz (fs.drop m) ≤ siz fs := by
  conv => rhs; rw [← List.take_append_drop m fs, siz_append]
  omega
set_option maxHeartbeats 8000000 in
set_option maxRecDepth 8000 in
theorem prints_walk (a b : Option Addr) (n cap m bcap : Nat) (fs gs : List Fl) (name : List UInt8) (w : World) (hE : Env w.heap.size w) (hp : Fls w a n fs) (hq : Fls w b m gs) (hn : n ≤ 140737488351232) (hm : m ≤ 140737488351232) (hna : a = none → cap = 0) (hnb : b = none → bcap = 0)
    (hps : ∀ j, (fs.getD j f0).1.length ≤ 140737488351232 ∧ (fs.getD j f0).2.length ≤ 140737488351232) (hqs : ∀ j, (gs.getD j f0).1.length ≤ 140737488351232 ∧ (gs.getD j f0).2.length ≤ 140737488351232) (hs : name.length ≤ 9223372036854775807) :
    Calls Tryd.prog 5 #[.slice a n cap, S name, .slice b m bcap] w fun e w' => e = .returned (.bool true) ∧ Below w.heap.size w w' := by
  have HN := hide hp.1
  have HM := hide hq.1
  have HP := hide hp
  have HQ := hide hq
  have HW := hide (weighs_any a n cap fs w hp (by omega) (fun j => by have := hps j; omega))
  have HW2 := hide (fun W (h : Fls W b m gs) => weighs_any b m bcap gs W h (by omega) (fun j => by have := hqs j; omega))
  have HE := hide hE
  have HNA := hide hna
  have HNB := hide hnb
  clear hp hq hE hps hqs hna hnb
  go_enter Tryd.func5, Tryd.ntmps5
  go_wp2_with fail
  refine (unhide HW).mono ?_
  rintro e w1 ⟨r, rfl, hr0, hr, b1⟩
  have B1 := hide b1
  have HR := hide hr
  have HA := hide (adds_any r name.length w1 (by omega) hs)
  have hal := hide (@addN_le r name.length)
  have hab := addN_bd r name.length
  clear b1 hr HW
  generalize addN r name.length = A at *
  go_wp2_with fail
  refine (unhide HA).mono ?_
  rintro e w1' ⟨rfl, rfl⟩
  clear HA
  have HW3 := hide (unhide HW2 _ ((unhide HQ).below (unhide B1)))
  clear HW2
  go_wp2_with fail
  refine (unhide HW3).mono ?_
  rintro e w2 ⟨r2, rfl, hr20, hr2, b2⟩
  have B2 := hide ((unhide B1).trans (b2.mono (unhide B1).size))
  have HR2 := hide hr2
  have HA2 := hide (adds_any A r2 w2 (by omega) (by omega))
  have hal2 := hide (@addN_le A r2)
  clear b2 hr2 HW3 B1
  generalize addN A r2 = A2 at *
  go_wp2_with fail
  refine (unhide HA2).mono ?_
  rintro e w2' ⟨rfl, rfl⟩
  clear HA2
  by_cases hA : 2147483647 < A2
  · have iA : (2147483647 : Int) < (A2 : Int) := by omega
    go_wp2
    go_ret
    exact ⟨rfl, unhide B2⟩
  · have iA : ¬ (2147483647 : Int) < (A2 : Int) := by omega
    have hsum2 := unhide hal2 (by omega)
    have hsum := unhide hal (by omega)
    have hz1 := unhide HR (by omega)
    have hz2 := unhide HR2 (by omega)
    have hS : siz fs + name.length + siz gs ≤ 2147483647 := by omega
    clear hal hal2 HR HR2 hr0 hr20 hsum hsum2 hz1 hz2 hA hab
    have hnz : n ≤ siz fs := by have := siz_len fs; have := unhide HN; omega
    have HK := hide (awake_any w2' ((unhide HE).next (unhide B2)))
    go_wp2_with fail
    refine (unhide HK).mono ?_
    rintro e w3 ⟨rfl, b3⟩
    have B3 := hide ((unhide B2).trans (b3.mono (unhide B2).size))
    clear b3 HK B2
    have HL := hide (lent_any a n cap fs w3 ((unhide HP).below (unhide B3)) (unhide HNA) (by omega))
    go_wp2_with fail
    refine (unhide HL).mono ?_
    rintro e w4 ⟨rfl, hb4, b4⟩
    have B4 := hide ((unhide B3).trans (b4.mono (unhide B3).size))
    have hgz : w.heap.size ≤ w3.heap.size := (unhide B3).size
    have HB4 := hide hb4
    clear b4 HL B3 hb4
    generalize w3.heap.size = g at *
    have hml : (mid fs 4).length = n + 4 := by rw [mid_len fs 4 (by omega), unhide HN]
    have hmt : (mid fs 4).take n = fs := by
      unfold mid
      rw [unhide HN, List.take_left']
      rfl
    have HIN : Hid (∀ W, Blk g (mid fs 4) W → Fls W (some ⟨g, 0, none⟩) n fs) := hide (fun W h => by
      have := h.fls.take n (by omega)
      rw [hmt] at this
      exact this)
    have HPr := hide (print_any (some ⟨g, 0, none⟩) n (n + 4) fs w4 (unhide HIN _ (unhide HB4)) ((unhide HE).next (unhide B4)) (by omega))
    go_wp2_with fail
    refine (unhide HPr).mono ?_
    rintro e w5 ⟨rfl, b5⟩
    have B5 := hide ((unhide B4).trans (b5.mono (unhide B4).size))
    have HB5 := hide ((unhide HB4).keep b5)
    have HO1 := hide (qOne_any (some ⟨g, 0, none⟩) n (n + 4) fs name w5 (unhide HIN _ (unhide HB5)) (by omega))
    obtain ⟨ox, oe, hox⟩ := tell2_form (one fs name)
    rw [hox] at HO1
    clear b5 HPr B4 HB4
    go_wp2_with fail
    refine (unhide HO1).mono ?_
    rintro e w6 ⟨rfl, b6⟩
    have B6 := hide ((unhide B5).trans (b6.mono (unhide B5).size))
    have HB6 := hide ((unhide HB5).keep b6)
    have HO2 := hide (refOne_any a n cap fs name w6 ((unhide HP).below (unhide B6)) (by omega))
    rw [hox] at HO2
    clear b6 HO1 B5 HB5 hox
    go_wp2_with fail
    refine (unhide HO2).mono ?_
    rintro e w7 ⟨rfl, b7⟩
    have B7 := hide ((unhide B6).trans (b7.mono (unhide B6).size))
    have HB7 := hide ((unhide HB6).keep b7)
    have HWh := hide (whole_any g a n cap fs w7 (unhide HB7) ((unhide HP).below (unhide B7)) (by omega))
    clear b7 HO2 B6 HB6
    go_wp2_with fail
    refine (unhide HWh).mono ?_
    rintro e w8 ⟨rfl, b8⟩
    have B8 := hide ((unhide B7).trans (b8.mono (unhide B7).size))
    have HB8 := hide ((unhide HB7).keep b8)
    have HRp := hide (refPrint_any a n cap fs w8 ((unhide HP).below (unhide B8)) (by omega))
    clear b8 HWh B7 HB7
    generalize prt fs = L1 at *
    go_wp2_with fail
    refine (unhide HRp).mono ?_
    rintro e w9 ⟨rfl, b9⟩
    have B9 := hide ((unhide B8).trans (b9.mono (unhide B8).size))
    have HB9 := hide ((unhide HB8).keep b9)
    clear b9 HRp B8 HB8
    obtain ⟨F, hF⟩ : ∃ F, F = gs.take (min m n) ++ fs.drop (min m n) := ⟨_, rfl⟩
    have HIN2 : Hid (∀ W, Blk g (gs.take (min m n) ++ (mid fs 4).drop (min m n)) W → Fls W (some ⟨g, 0, none⟩) n F) := hide (fun W h => by
      have hm' := unhide HM
      have hn' := unhide HN
      have hl : (gs.take (min m n)).length = min m n := by rw [List.length_take]; omega
      have h2 := h.fls.take n (by rw [List.length_append, hl, List.length_drop, hml]; omega)
      have e : (gs.take (min m n) ++ (mid fs 4).drop (min m n)).take n = F := by
        rw [hF, List.take_append, hl, List.take_of_length_le (by omega)]
        congr 1
        rw [← List.drop_take, hmt]
      rw [e] at h2
      exact h2)
    have hsF : siz F ≤ siz gs + siz fs := by
      rw [hF, siz_append]
      have h1 := siz_take_le gs (min m n)
      have h2 := siz_drop_le fs (min m n)
      omega
    have HFL := hide (show F.length = n by
      have hm' := unhide HM
      have hn' := unhide HN
      rw [hF, List.length_append, List.length_take, List.length_drop]
      omega)
    clear hF hmt hml
    go_wp2_with (first | (refine copyF rfl (.tmp 72) (.tmp 73) rfl g n (n + 4) b m bcap (by rfl) (by rfl) (mid fs 4) gs (unhide HB9) ((unhide HQ).below (unhide B9)) (unhide HNB) (by rw [mid_len fs 4 (by omega), ← unhide HN]; omega) ?_; intro w10 hb10 k10) | (at_builtin; refine appendF rfl (.tmp 75) (.tmp 76) rfl (by rfl) g n (n + 4) F (by rfl) (unhide HIN2 _ hb10) (by omega) ?_; intro v2 w11 ho11))
    have B10 := hide (k10 _ _ hgz (unhide B9))
    have B11 := hide ((unhide B10).trans (ho11.2.1.mono (unhide B10).size))
    have HB11 := hide (hb10.keep ho11.2.1)
    obtain ⟨p11, cap11, rfl, hf11⟩ := ho11.fls
    rw [unhide HFL] at hf11 ⊢
    have HF11 := hide hf11
    have HO3 := hide (qOne_any (some ⟨g, 0, none⟩) n (n + 4) F name w11 (unhide HIN2 _ (unhide HB11)) (by omega))
    obtain ⟨px, pe, hpx⟩ := tell2_form (one F name)
    rw [hpx] at HO3
    clear hb10 k10 ho11 hf11 HB9 B9 B10
    go_wp2_with fail
    refine (unhide HO3).mono ?_
    rintro e w12 ⟨rfl, b12⟩
    have B12 := hide ((unhide B11).trans (b12.mono (unhide B11).size))
    have HB12 := hide ((unhide HB11).keep b12)
    have HF12 := hide ((unhide HF11).below b12)
    have HO4 := hide (refOne_any p11 n cap11 F name w12 (unhide HF12) (by omega))
    rw [hpx] at HO4
    clear b12 HO3 B11 HB11 HF11 hpx
    go_wp2_with fail
    refine (unhide HO4).mono ?_
    rintro e w13 ⟨rfl, b13⟩
    have B13 := hide ((unhide B12).trans (b13.mono (unhide B12).size))
    have HB13 := hide ((unhide HB12).keep b13)
    have HF13 := hide ((unhide HF12).below b13)
    have HPr2 := hide (print_any (some ⟨g, 0, none⟩) n (n + 4) F w13 (unhide HIN2 _ (unhide HB13)) ((unhide HE).next (unhide B13)) (by omega))
    have HRp2 := hide (fun W (h : Fls W p11 n F) => refPrint_any p11 n cap11 F W h (by omega))
    clear b13 HO4 B12 HB12 HF12
    generalize prt F = L2 at *
    go_wp2_with fail
    refine (unhide HPr2).mono ?_
    rintro e w14 ⟨rfl, b14⟩
    have B14 := hide ((unhide B13).trans (b14.mono (unhide B13).size))
    have HRp3 := hide (unhide HRp2 _ ((unhide HF13).below b14))
    clear b14 HPr2 B13 HB13 HF13 HRp2
    go_wp2_with fail
    refine (unhide HRp3).mono ?_
    rintro e w15 ⟨rfl, b15⟩
    have B15 := hide ((unhide B14).trans (b15.mono (unhide B14).size))
    clear b15 HRp3 B14
    go_wp2
    go_ret
    exact ⟨rfl, unhide B15⟩
end Go.Proofs.YtbmcaejbfjpmiaaDoor
