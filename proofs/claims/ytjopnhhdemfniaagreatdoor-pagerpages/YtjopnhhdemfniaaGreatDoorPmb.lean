import Derived.Test.YtjopnhhdemfniaaGreatDoorZpjf
import Derived.Test.YtjopnhhdemfniaaGreatDoorZpja
import Derived.Test.YtjopnhhdemfniaaGreatDoorRgpp
import Derived.Test.YtjopnhhdemfniaaGreatDoorZdetl
namespace Go.Proofs.YtjopnhhdemfniaaGreatDoor
open Go.RowKit
set_option maxHeartbeats 8000000
set_option maxRecDepth 8000
theorem str_cat (a b : Bs) : Value.string (⟨a.toArray⟩ ++ ⟨b.toArray⟩) = S (a ++ b) := by rw [cat_ba]
theorem pg_at {l : List Int} (h : l.all isPg = true) {k : Nat} (hk : k < l.length) : 2 ≤ l.getD k 0 ∧ l.getD k 0 < 4096 := by
  have hm : l.getD k 0 ∈ l := by
    rw [List.getD_eq_getElem?_getD, List.getElem?_eq_getElem hk]
    exact List.getElem_mem hk
  have := List.all_eq_true.1 h _ hm
  simpa [isPg] using this
theorem rPrintPage_any (p : Pg) (a : Option Addr) (cap : Nat) (w : World) (hl : Ins w a p.links.length p.links) (hn : p.links.length ≤ 1000000000000) (hx : p.body.length ≤ 1000000000000) :
    Calls Tryz.prog 14 #[pga p a cap] w fun e w' => e = .returned (.tuple #[S (prn p).1, I (prn p).2]) ∧ Below w.heap.size w w' := by
  have bA := (Below.refl w.heap.size w).alloc (Nat.le_refl _) (.cells (pgc p a cap) 24)
  have hg := heap_alloc_new w (.cells (pgc p a cap) 24)
  have hla := hl.below bA
  have HM := hide (rPageMay_any p a cap _ hla hn hx)
  have HB := hide bA
  have HI := hide hla
  cases hm : p.may
  · rw [hm] at HM
    have HP := hide (show prn p = ([], 94) by unfold prn; rw [if_neg (by rw [hm]; exact Bool.false_ne_true)])
    generalize prn p = R at *
    clear hm hl hla bA
    obtain ⟨k, m, b, l, x⟩ := p
    unfold pga pgc at *
    simp only at HB HI hg HM ⊢
    obtain ⟨e0, e1, e2, e3, e4⟩ := box5 hg (Below.refl _ _) (lt_of_row hg)
    have HG := hide hg
    clear hg
    go_enter Tryz.func14, Tryz.ntmps14
    go_wp2_with fail
    refine (unhide HM).mono ?_
    rintro e w1 ⟨rfl, b1⟩
    have HB1 := hide ((unhide HB).trans (b1.mono (unhide HB).size))
    clear b1
    go_wp2
    refine bodyPost_ret (v := .tuple #[S [], I 94]) (by simp [results, Tryz.results14, go_sem]) rfl ?_
    exact ⟨by rw [unhide HP], unhide HB1⟩
  · rw [hm] at HM
    have HP := hide (show prn p = (p.blk, 0) by unfold prn; rw [if_pos hm])
    have HBK := hide (show p.blk = fil p.text 508 ++ be 4 (crc (fil p.text 508)).toNat from rfl)
    have HFL := hide (show fil p.text 508 = p.text ++ List.replicate (508 - p.text.length) 0 from rfl)
    have HTX := hide (show p.text = p.head ++ lks p.links ++ p.body from rfl)
    have HHD := hide (show p.head = [76, 80] ++ be 1 p.kind.toNat ++ be 1 p.links.length ++ be 4 p.number.toNat ++ be 8 p.birth.toNat ++ be 2 p.body.length ++ List.replicate 2 0 from rfl)
    have hfr := Pg.may_fresh hm
    have hroom := Pg.fresh_room hfr
    have hall : p.links.all isPg = true := by simp only [Pg.fresh, Bool.and_eq_true] at hfr; exact hfr.2
    have htl := p.text_len
    have hhl := p.head_len
    have H5 := hide (fun W => rsum_any (fil p.text 508) W (by rw [fil_len _ _ (by omega)]; omega))
    have H6 := hide (fun W => noughts_any (508 - p.text.length) W (by omega))
    have H62 := hide (fun W => noughts_any 2 W (by omega))
    simp only [Pg.may, Pg.fresh, isGn, isPg, Bool.and_eq_true, decide_eq_true_eq] at hm
    obtain ⟨⟨b1, b2⟩, ⟨⟨⟨_, k1⟩, k2⟩, m1, m2⟩, _⟩ := hm
    have A1 := hide (fun W => by_any 1 p.kind.toNat W (by omega) (by omega) (by omega))
    have A2 := hide (fun W => by_any 1 p.links.length W (by omega) (by omega) (by omega))
    have A3 := hide (fun W => by_any 4 p.number.toNat W (by omega) (by omega) (by omega))
    have A4 := hide (fun W => by_any 8 p.birth.toNat W (by omega) (by omega) (by omega))
    have A5 := hide (fun W => by_any 2 p.body.length W (by omega) (by omega) (by omega))
    have AL := hide (fun W j (hj : j < p.links.length) => by_any 4 (p.links.getD j 0).toNat W (by omega) (by omega) (by have := pg_at hall hj; omega))
    have HAL := hide (fun j (hj : j < p.links.length) => pg_at hall hj)
    rw [show ((p.kind.toNat : Nat) : Int) = p.kind by omega] at A1
    rw [show ((p.number.toNat : Nat) : Int) = p.number by omega] at A3
    rw [show ((p.birth.toNat : Nat) : Int) = p.birth by omega] at A4
    have HLB := hide (And.intro (be_len 1 p.kind.toNat) (And.intro (be_len 1 p.links.length) (And.intro (be_len 4 p.number.toNat) (And.intro (be_len 8 p.birth.toNat) (be_len 2 p.body.length)))))
    have HLN := hide (And.intro hroom (And.intro htl hhl))
    have HCL := hide (be_len 4 (crc (fil p.text 508)).toNat)
    generalize be 1 p.kind.toNat = B1 at *
    generalize be 1 p.links.length = B2 at *
    generalize be 4 p.number.toNat = B3 at *
    generalize be 8 p.birth.toNat = B4 at *
    generalize be 2 p.body.length = B5 at *
    generalize be 4 (crc (fil p.text 508)).toNat = BC at *
    generalize p.blk = BK at *
    generalize fil p.text 508 = FL at *
    generalize prn p = R at *
    generalize p.text = TX at *
    generalize p.head = HD at *
    clear hl hla bA hall hfr hroom htl hhl b1 b2 k1 k2 m1 m2
    obtain ⟨k, m, b, l, x⟩ := p
    unfold pga pgc at *
    simp only at HB HI hg HM A1 A2 A3 A4 A5 AL HAL HTX HHD HLN hn hx ⊢
    obtain ⟨e0, e1, e2, e3, e4⟩ := box5 hg (Below.refl _ _) (lt_of_row hg)
    have HG := hide hg
    clear hg
    go_enter Tryz.func14, Tryz.ntmps14
    go_wp2_with fail
    refine (unhide HM).mono ?_
    rintro e w1 ⟨rfl, q1⟩
    have HG1 := hide ((q1.block _ (lt_of_row (unhide HG))).trans (unhide HG))
    have HB1 := hide ((unhide HB).trans (q1.mono (unhide HB).size))
    have HI1 := hide ((unhide HI).below q1)
    clear q1 e0 e1 e2 e3 e4 HM HI HG HB
    go_upto_region 4 with fail
    refine rpp4 w.heap.size l.length cap a k m b x B1 B2 B3 B4 B5 (List.replicate 2 0) (by kernel_rfl) (by kernel_rfl) (by kernel_rfl) _ _ (by show 35 ≤ Array.size _; simp) rfl (fun _ _ W => Below w1.heap.size w1 W) ⟨(), (Below.refl _ _).drew⟩ (fun _ _ _ _ _ q => q) ?_ ?_ ?_ ?_ ?_ ?_ ?_ ?_ ?_ ?_ ?_ ?_ ?_ ?_ ?_ ?_ ?_ ?_
    · exact fun _ _ W q _ _ => s_ld Tryz.isAgg3 (box5 (unhide HG1) q (lt_of_row (unhide HG1))).1
    · intro _ L W q _ _
      refine (unhide A1 W).mono ?_
      rintro e w' ⟨rfl, q1⟩
      exact ⟨(), fun _ _ => rfl, rfl, q.trans (q1.mono q.size)⟩
    · exact fun W => s_cat _ _ [76, 80] B1 (by have := unhide HLB; simp; omega)
    · exact fun _ _ W q _ _ => s_ld Tryz.isAgg22 (box5 (unhide HG1) q (lt_of_row (unhide HG1))).2.2.2.1
    · intro _ L W q _ _
      refine (unhide A2 W).mono ?_
      rintro e w' ⟨rfl, q1⟩
      exact ⟨(), fun _ _ => rfl, rfl, q.trans (q1.mono q.size)⟩
    · exact fun W => s_cat _ _ _ B2 (by have := unhide HLB; simp; omega)
    · exact fun _ _ W q _ _ => s_ld Tryz.isAgg3 (box5 (unhide HG1) q (lt_of_row (unhide HG1))).2.1
    · intro _ L W q _ _
      refine (unhide A3 W).mono ?_
      rintro e w' ⟨rfl, q1⟩
      exact ⟨(), fun _ _ => rfl, rfl, q.trans (q1.mono q.size)⟩
    · exact fun W => s_cat _ _ _ B3 (by have := unhide HLB; simp; omega)
    · exact fun _ _ W q _ _ => s_ld Tryz.isAgg3 (box5 (unhide HG1) q (lt_of_row (unhide HG1))).2.2.1
    · intro _ L W q _ _
      refine (unhide A4 W).mono ?_
      rintro e w' ⟨rfl, q1⟩
      exact ⟨(), fun _ _ => rfl, rfl, q.trans (q1.mono q.size)⟩
    · exact fun W => s_cat _ _ _ B4 (by have := unhide HLB; simp; omega)
    · exact fun _ _ W q _ _ => s_ld Tryz.isAgg9 (box5 (unhide HG1) q (lt_of_row (unhide HG1))).2.2.2.2
    · intro _ L W q _ _
      refine (unhide A5 W).mono ?_
      rintro e w' ⟨rfl, q1⟩
      exact ⟨(), fun _ _ => rfl, rfl, q.trans (q1.mono q.size)⟩
    · exact fun W => s_cat _ _ _ B5 (by have := unhide HLB; simp; omega)
    · intro _ L W q _
      refine (unhide H62 W).mono ?_
      rintro e w' ⟨rfl, q1⟩
      exact ⟨(), fun _ _ => rfl, rfl, q.trans (q1.mono q.size)⟩
    · exact fun W => s_cat _ _ _ (List.replicate 2 0) (by have := unhide HLB; simp; omega)
    intro _ L W2 _ hW2
    have HG2 := hide ((hW2.block _ (lt_of_row (unhide HG1))).trans (unhide HG1))
    have HB2 := hide ((unhide HB1).trans (hW2.mono (unhide HB1).size))
    have HI2 := hide ((unhide HI1).below hW2)
    clear hW2 HG1 HB1 HI1
    rw [← unhide HHD]
    simp only [Act.put, List.setIfInBounds_toArray, List.set_cons_succ, List.set_cons_zero]
    generalize [76, 80] ++ B1 ++ B2 ++ B3 ++ B4 ++ B5 = y5 at *
    generalize [76, 80] ++ B1 ++ B2 ++ B3 ++ B4 = y4 at *
    generalize [76, 80] ++ B1 ++ B2 ++ B3 = y3 at *
    generalize [76, 80] ++ B1 ++ B2 = y2 at *
    generalize [76, 80] ++ B1 = y1 at *
    clear HHD
    go_wp2
    go_loopw [5, 6] (fun s i wr => ∃ j : Nat, j ≤ l.length ∧ i = .int .i64 j ∧ s = S (HD ++ lks (l.take j)) ∧ Below W2.heap.size W2 wr) (fun _ i _ => l.length - (Go.RowKit.intOf i).toNat)
    case atStart => exact ⟨0, by omega, rfl, by simp [lks], Below.refl _ _⟩
    case round =>
      obtain ⟨j, hj, rfl, rfl, hb⟩ := hrel
      have HBR := hide hb
      obtain ⟨e0, e1, e2, e3, e4⟩ := box5 (unhide HG2) hb (lt_of_row (unhide HG2))
      by_cases hlt : j < l.length
      · have hlt' : (j : Int) < (l.length : Int) := by omega
        obtain ⟨p, o, rfl, hpl, hc0⟩ := ((unhide HI2).below hb).at hlt
        have HC := hide (unhide AL wr j hlt)
        have HN := hide (lks_next l j hlt)
        have HZ := hide (unhide HAL j hlt)
        have hlk : (lks (l.take j)).length ≤ 488 := by rw [lks_len, List.length_take]; have := unhide HLN; omega
        have hb4 : (be 4 (l.getD j 0).toNat).length = 4 := be_len _ _
        rw [show (((l.getD j 0).toNat : Nat) : Int) = l.getD j 0 by have := unhide HZ; omega] at HC
        generalize be 4 (l.getD j 0).toNat = B4j at *
        generalize l.getD j 0 = z at *
        have hcat : ¬ 9223372036854775807 < (HD ++ lks (l.take j)).length + B4j.length := by rw [List.length_append]; have := unhide HLN; omega
        generalize hY : HD ++ lks (l.take j) = Y at *
        have HY := hide hY
        clear hY hb hlk hb4
        go_wp2_with fail
        refine (unhide HC).mono ?_
        rintro e w' ⟨rfl, q1⟩
        have HQ := hide ((unhide HBR).trans (q1.mono (unhide HBR).size))
        clear q1
        go_wp2
        go_round
        case measure => simp [Go.RowKit.intOf]; omega
        case rel =>
          repeat apply Exists.intro
          refine ⟨⟨j + 1, by omega, by simp, ?_, unhide HQ⟩, rfl⟩
          rw [str_cat, unhide HN, ← unhide HY, List.append_assoc]
      · have hlt' : ¬ (j : Int) < (l.length : Int) := by omega
        obtain rfl : j = l.length := by omega
        rw [List.take_length]
        have hT : HD ++ lks l ++ x = TX := (unhide HTX).symm
        have HT := hide hT
        have hln := unhide HLN
        have hlk := lks_len l
        have c1 : ¬ 9223372036854775807 < (HD ++ lks l).length + x.length := by rw [List.length_append]; omega
        generalize hY : HD ++ lks l = Y at *
        clear hT hlt hb hY hlk
        have htl : TX.length = Y.length + x.length := by rw [← unhide HT, List.length_append]
        have h508 : (508 : Int) - (TX.length : Int) = ((508 - TX.length : Nat) : Int) := by omega
        have HNL := hide (show TX.length ≤ 508 by omega)
        have H508 := hide h508
        clear htl h508 hln
        go_upto_region 10 with fail
        rw [str_cat, unhide HT]
        have h508 := unhide H508
        have hTX := unhide HNL
        have hr1 : 0 ≤ (508 : Int) - (TX.length : Int) := by omega
        have hr2 : (508 : Int) - (TX.length : Int) ≤ 508 := by omega
        have c2 : ¬ 9223372036854775807 < TX.length + (List.replicate (508 - TX.length) (0 : UInt8)).length := by rw [List.length_replicate]; omega
        have c3 : ¬ 9223372036854775807 < FL.length + BC.length := by rw [unhide HFL, List.length_append, List.length_replicate, unhide HCL]; omega
        clear hTX
        generalize List.replicate (508 - TX.length) (0 : UInt8) = NU at *
        go_wp2_with fail
        refine (unhide H6 _).mono ?_
        rintro e w5 ⟨rfl, q5⟩
        have HQ5 := hide ((unhide HBR).trans (q5.mono (unhide HBR).size))
        clear q5
        go_upto_region 11 with fail
        rw [str_cat, ← unhide HFL]
        clear h508 hr1 hr2 c2
        go_wp2_with fail
        refine (unhide H5 _).mono ?_
        rintro e w6 ⟨rfl, q6⟩
        have HQ6 := hide ((unhide HQ5).trans (q6.mono (unhide HQ5).size))
        clear q6
        go_wp2
        refine bodyPost_ret (v := .tuple #[S (FL ++ BC), I 0]) ?_ rfl ?_
        · simp [results, Tryz.results14, go_sem]
          apply ByteArray.ext
          simp [ByteArray.data_append]
        · exact ⟨by rw [unhide HP, unhide HBK], (unhide HB2).trans ((unhide HQ6).mono (unhide HB2).size)⟩
end Go.Proofs.YtjopnhhdemfniaaGreatDoor
