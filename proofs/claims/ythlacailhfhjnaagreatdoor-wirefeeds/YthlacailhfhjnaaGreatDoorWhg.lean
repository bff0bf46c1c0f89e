import Derived.Test.YthlacailhfhjnaaGreatDoorZwhc
import Derived.Test.YthlacailhfhjnaaGreatDoorZwbd
import Derived.BigRegion
namespace Go.Proofs.YthlacailhfhjnaaGreatDoor
open Go.RowKit Go.Lib
/-- What was got, in its box. -/
def gcs (m p : Bs) (st : Int) (hv : Value) (b : Bs) (n : Int) (wh : Bool) (e : Int) : Array Value := #[S m, S p, .int .i64 st, hv, S b, .int .i64 n, .bool wh, .int .i64 e]
/-- What a first line of an answer leaves in the box. -/
def Tld (P : Nat) (m p : Bs) (hv : Value) (b : Bs) (n : Int) (wh : Bool) (e : Int) (s : Bs) (w w' : World) : Prop := ∃ z : Int, w'.heap[P]? = some (.cells (gcs m p z hv b n wh e) 93 (0, 0)) ∧ Only (fun k => k = P) w w' ∧ (tlb s = true → z = tlv s)
set_option maxHeartbeats 4000000 in
set_option maxRecDepth 8000 in
theorem rtold_any (P : Nat) (m p : Bs) (st : Int) (hv : Value) (b : Bs) (n : Int) (wh : Bool) (e : Int) (s : Bs) (w : World) (hs : s.length ≤ 1000000) (hx : w.heap[P]? = some (.cells (gcs m p st hv b n wh e) 93 (0, 0))) :
    Calls Tryz.prog 78 #[ptr P, S s] w fun r w' => r = .returned (.bool (tlb s)) ∧ Tld P m p hv b n wh e s w w' := by
  have HT := hide (show tlb s = (decide (13 ≤ s.length) && s.take 8 == vers && s.getD 8 0 == 32 && s.getD 12 0 == 32 && ((s.drop 9).take 3).all dgt && (s.drop 13).all shn && decide (100 ≤ tlv s ∧ tlv s ≤ 599)) from rfl)
  have HX := hide hx
  obtain ⟨B, hB0⟩ : ∃ B, B = tlb s := ⟨_, rfl⟩
  have HB0 := hide hB0
  rw [← hB0] at HT ⊢
  clear hB0
  have hsz : (ByteArray.mk s.toArray).size = s.length := ba_size s
  have hidx : ∀ j (h : j < (ByteArray.mk s.toArray).size), (ByteArray.mk s.toArray)[j]'h = s.getD j 0 := fun j h => by
    have h' : j < s.length := by rw [hsz] at h; exact h
    show s.toArray[j] = _
    simp [h']
  have h8l : ((ByteArray.mk s.toArray).extract 0 8).toList = s.take 8 := by rw [extract_toList]; simp
  have HI := hide hidx
  have H8 := hide h8l
  clear hidx h8l hx
  by_cases h13 : 13 ≤ s.length
  · have i1 : ¬ (s.length : Int) < 13 := by omega
    have hle8 : (8 : Int) ≤ (s.length : Int) := by omega
    have hl8 : 8 < (ByteArray.mk s.toArray).size := by rw [hsz]; omega
    have hl12 : 12 < (ByteArray.mk s.toArray).size := by rw [hsz]; omega
    have hC8 := unhide HI 8 hl8
    have hC12 := unhide HI 12 hl12
    by_cases h8 : s.take 8 = vers
    · have f8 : ((ByteArray.mk s.toArray).extract 0 8).toList = [72, 84, 84, 80, 47, 49, 46, 49] := by rw [unhide H8, h8]; rfl
      by_cases hb8 : s.getD 8 0 = 32
      · have n8 : (((s.getD 8 0).toNat : Nat) : Int) = 32 := by rw [hb8]; rfl
        by_cases hb12 : s.getD 12 0 = 32
        · have n12 : (((s.getD 12 0).toNat : Nat) : Int) = 32 := by rw [hb12]; rfl
          have hl9 : 9 < (ByteArray.mk s.toArray).size := by rw [hsz]; omega
          have hl10 : 10 < (ByteArray.mk s.toArray).size := by rw [hsz]; omega
          have hl11 : 11 < (ByteArray.mk s.toArray).size := by rw [hsz]; omega
          have hC9 := unhide HI 9 hl9
          have hC10 := unhide HI 10 hl10
          have hC11 := unhide HI 11 hl11
          have x1 : (ByteArray.mk s.toArray).extract 9 12 = ⟨((s.drop 9).take 3).toArray⟩ := by rw [extract_eq]
          have x2 : (ByteArray.mk s.toArray).extract 13 s.length = ⟨(s.drop 13).toArray⟩ := by rw [extract_eq, List.take_of_length_le (by simp)]
          have HW1 := hide (fun W => within_any ((s.drop 9).take 3) 48 57 W (by simp; omega))
          have HW2 := hide (fun W => within_any (s.drop 13) 32 126 W (by simp; omega))
          rw [wth_dgt] at HW1
          rw [wth_shn] at HW2
          have hB1 : B = (((s.drop 9).take 3).all dgt && (s.drop 13).all shn && decide (100 ≤ tlv s ∧ tlv s ≤ 599)) := by
            rw [unhide HT, h8, hb8, hb12, decide_eq_true h13]
            simp
          have hv1 : ((s.drop 9).take 3).all dgt = true → tlv s = 100 * ((s.getD 9 0).toNat - 48) + 10 * ((s.getD 10 0).toNat - 48) + ((s.getD 11 0).toNat - 48) ∧ (48 ≤ (s.getD 9 0).toNat ∧ (s.getD 9 0).toNat ≤ 57) ∧ (48 ≤ (s.getD 10 0).toNat ∧ (s.getD 10 0).toNat ≤ 57) ∧ (48 ≤ (s.getD 11 0).toNat ∧ (s.getD 11 0).toNat ≤ 57) := by
            intro h
            have hg : ∀ j, j < 3 → 48 ≤ (s.getD (9 + j) 0).toNat ∧ (s.getD (9 + j) 0).toNat ≤ 57 := fun j hj => by
              have hjl : j < ((s.drop 9).take 3).length := by simp; omega
              have h1 := List.all_eq_true.1 h _ (List.getElem_mem hjl)
              have h2 : ((s.drop 9).take 3)[j] = s.getD (9 + j) 0 := by
                simp [show 9 + j < s.length by omega]
              rw [h2] at h1
              unfold dgt at h1
              simpa using h1
            exact ⟨rfl, hg 0 (by omega), hg 1 (by omega), hg 2 (by omega)⟩
          have HV := hide hv1
          have HB1 := hide hB1
          have hx := unhide HX
          have hPl := lt_of_row hx
          have hc2 : w.cell? ⟨P, 2, none⟩ = some (.int .i64 st) := cell_of_row w _ 2 _ 93 (0, 0) hx
          have hz2 : w.frozen? ⟨P, 2, none⟩ = false := frozen_of_heap hx 2
          have HSET := hide (fun z : Int => (show (w.setCell ⟨P, 2, none⟩ (.int .i64 z)).heap[P]? = some (.cells (gcs m p z hv b n wh e) 93 (0, 0)) from heap_setCell_same w P 2 _ 93 _ hx))
          have l13 : (13 : Int) ≤ (s.length : Int) := by omega
          have l12 : (12 : Int) ≤ (s.length : Int) := by omega
          clear hB1 hv1 hx h8
          generalize ((s.drop 9).take 3).all dgt = D at *
          generalize (s.drop 13).all shn = R at *
          generalize s.getD 9 0 = c9 at *
          generalize s.getD 10 0 = c10 at *
          generalize s.getD 11 0 = c11 at *
          generalize s.getD 12 0 = c12 at *
          generalize s.getD 8 0 = c8 at *
          go_enter Tryz.func78, Tryz.ntmps78
          go_wp2_with fail
          refine (unhide HW1 w).mono ?_
          rintro e1 w1 ⟨rfl, hw1⟩
          rw [hw1]
          clear hw1
          go_wp2_with fail
          refine (unhide HW2 w).mono ?_
          rintro e2 w2 ⟨rfl, hw2⟩
          rw [hw2]
          clear hw2 x1 x2 HW1 HW2
          have hc9 := c9.toNat_lt
          have hc10 := c10.toNat_lt
          have hc11 := c11.toNat_lt
          go_wp2_with fail
          go_region
          have HZ := hide (show D = true → 100 * (((c9.toNat : Int) - 48) % 256) + 10 * (((c10.toNat : Int) - 48) % 256) + ((c11.toNat : Int) - 48) % 256 = (tlv s : Int) from fun h => by
            obtain ⟨v1, v2, v3, v4⟩ := unhide HV h
            rw [v1]
            omega)
          generalize 100 * (((c9.toNat : Int) - 48) % 256) + 10 * (((c10.toNat : Int) - 48) % 256) + ((c11.toNat : Int) - 48) % 256 = z at *
          have hx2 : ((w.setCell ⟨P, 2, none⟩ (.int .i64 z)).drew).heap[P]? = some (.cells (gcs m p z hv b n wh e) 93 (0, 0)) := unhide HSET z
          have HO := hide (((Only.setCell w ⟨P, 2, none⟩ (.int .i64 z)).trans (Only.drew (fun k => k = P) _) (fun _ _ q => q)))
          clear hc2 hz2
          generalize (w.setCell ⟨P, 2, none⟩ (.int .i64 z)).drew = w3 at *
          have hc2 : w3.cell? ⟨P, 2, none⟩ = some (.int .i64 z) := cell_of_row w3 _ 2 _ 93 (0, 0) hx2
          have hPl3 := lt_of_row hx2
          have HX3 := hide hx2
          clear hx2
          cases D with
          | false =>
            have hBf : B = false := by rw [unhide HB1]; rfl
            subst hBf
            go_wp2
            go_ret
            exact ⟨rfl, z, unhide HX3, unhide HO, fun q => by rw [← unhide HB0] at q; cases q⟩
          | true =>
            have hz := unhide HZ rfl
            cases R with
            | false =>
              have hBf : B = false := by rw [unhide HB1]; rfl
              subst hBf
              clear hz
              go_wp2
              go_ret
              exact ⟨rfl, z, unhide HX3, unhide HO, fun q => by rw [← unhide HB0] at q; cases q⟩
            | true =>
              have hBe : B = decide (100 ≤ tlv s ∧ tlv s ≤ 599) := by rw [unhide HB1]; rfl
              have HZZ := hide hz
              by_cases r1 : 100 ≤ tlv s
              · have z1 : (100 : Int) ≤ z := by omega
                by_cases r2 : tlv s ≤ 599
                · have z2 : z ≤ 599 := by omega
                  have hBt : B = true := by rw [hBe]; simp [r1, r2]
                  subst hBt
                  clear hz hBe r1 r2
                  go_wp2
                  go_ret
                  exact ⟨rfl, z, unhide HX3, unhide HO, fun _ => unhide HZZ⟩
                · have z2 : decide (z ≤ 599) = false := decide_eq_false (by omega)
                  have hBf : B = false := by rw [hBe]; simp [r2]
                  subst hBf
                  clear hz hBe r1 r2
                  go_wp2
                  go_ret
                  exact ⟨rfl, z, unhide HX3, unhide HO, fun q => by rw [← unhide HB0] at q; cases q⟩
              · have z1 : decide ((100 : Int) ≤ z) = false := decide_eq_false (by omega)
                have hBf : B = false := by rw [hBe]; simp [r1]
                subst hBf
                clear hz hBe r1
                go_wp2
                go_ret
                exact ⟨rfl, z, unhide HX3, unhide HO, fun q => by rw [← unhide HB0] at q; cases q⟩
        · have hB : B = false := by
            rw [unhide HT]
            have : (s.getD 12 0 == 32) = false := by simpa using hb12
            rw [this]
            simp
          subst hB
          have n12 : ((((s.getD 12 0).toNat : Nat) : Int) != 32) = true := by
            rw [bne_iff_ne]
            intro q
            exact hb12 (UInt8.toNat_inj.1 (by show (s.getD 12 0).toNat = 32; omega))
          generalize s.getD 12 0 = c12 at *
          generalize s.getD 8 0 = c8 at *
          go_enter Tryz.func78, Tryz.ntmps78
          go_wp2
          go_ret
          exact ⟨rfl, st, unhide HX, Only.refl _ _, fun q => by rw [← unhide HB0] at q; cases q⟩
      · have hB : B = false := by
          rw [unhide HT]
          have : (s.getD 8 0 == 32) = false := by simpa using hb8
          rw [this]
          simp
        subst hB
        have n8 : ((((s.getD 8 0).toNat : Nat) : Int) != 32) = true := by
          rw [bne_iff_ne]
          intro q
          exact hb8 (UInt8.toNat_inj.1 (by show (s.getD 8 0).toNat = 32; omega))
        generalize s.getD 8 0 = c8 at *
        go_enter Tryz.func78, Tryz.ntmps78
        go_wp2
        go_ret
        exact ⟨rfl, st, unhide HX, Only.refl _ _, fun q => by rw [← unhide HB0] at q; cases q⟩
    · have hB : B = false := by
        rw [unhide HT]
        have : (s.take 8 == vers) = false := by simpa using h8
        rw [this]
        simp
      subst hB
      have f8 : ¬ ((ByteArray.mk s.toArray).extract 0 8).toList = [72, 84, 84, 80, 47, 49, 46, 49] := by rw [unhide H8]; exact h8
      have f8b : (((ByteArray.mk s.toArray).extract 0 8).toList == [72, 84, 84, 80, 47, 49, 46, 49]) = false := by rw [beq_eq_false_iff_ne]; exact f8
      clear h8
      go_enter Tryz.func78, Tryz.ntmps78
      go_wp2
      go_ret
      exact ⟨rfl, st, unhide HX, Only.refl _ _, fun q => by rw [← unhide HB0] at q; cases q⟩
  · have hB : B = false := by rw [unhide HT]; simp [h13]
    subst hB
    have i1 : (s.length : Int) < 13 := by omega
    go_enter Tryz.func78, Tryz.ntmps78
    go_wp2
    go_ret
    exact ⟨rfl, st, unhide HX, Only.refl _ _, fun q => by rw [← unhide HB0] at q; cases q⟩
end Go.Proofs.YthlacailhfhjnaaGreatDoor
