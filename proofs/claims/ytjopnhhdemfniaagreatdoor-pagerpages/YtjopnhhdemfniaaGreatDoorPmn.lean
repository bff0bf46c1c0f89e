import Derived.Test.YtjopnhhdemfniaaGreatDoorRgpw
import Derived.Test.YtjopnhhdemfniaaGreatDoorPjm
import Derived.Test.YtjopnhhdemfniaaGreatDoorPmg
namespace Go.Proofs.YtjopnhhdemfniaaGreatDoor
open Go.RowKit
set_option maxHeartbeats 8000000
set_option maxRecDepth 8000
def mnv (n : Nat) : Int := if (2147483647 : Int) < (n : Int) then 2147483647 else (n : Int)
theorem mnv_bd (n : Nat) : 0 ≤ mnv n ∧ mnv n ≤ 2147483647 := by
  unfold mnv
  split <;> omega
def w1v (p : Pg) : Int := addv (addv (p.body.length : Int) 600) (16 * mnv p.links.length)
def tsv (p : Pg) : Nat → Int
  | 0 => 0
  | k + 1 => addv (tsv p k) (w1v p)
def wtv (p : Pg) : Int := if tsv p 1 ≤ 2147483647 then tsv p 2 else tsv p 1
theorem addv_nn {n m : Int} (h0 : 0 ≤ n) (h1 : 0 ≤ m) : 0 ≤ addv n m ∧ addv n m ≤ 2147483648 := by
  unfold addv
  split <;> omega
theorem w1v_bd (p : Pg) : 0 ≤ w1v p ∧ w1v p ≤ 2147483648 := by
  have := mnv_bd p.links.length
  have := addv_nn (n := (p.body.length : Int)) (m := 600) (by omega) (by omega)
  exact addv_nn (by omega) (by omega)
theorem tsv_bd (p : Pg) (k : Nat) : 0 ≤ tsv p k ∧ tsv p k ≤ 2147483648 := by
  induction k with
  | zero => exact ⟨by show (0 : Int) ≤ 0; omega, by show (0 : Int) ≤ _; omega⟩
  | succ k ih => exact addv_nn ih.1 (w1v_bd p).1
theorem wtv_bd (p : Pg) : 0 ≤ wtv p ∧ wtv p ≤ 2147483648 := by
  unfold wtv
  split
  · exact tsv_bd p 2
  · exact tsv_bd p 1
theorem wtv_few (p : Pg) (h : wtv p ≤ 2147483647) : p.body.length ≤ 2147483647 ∧ p.links.length ≤ 134217728 := by
  have h1 : tsv p 1 ≤ 2147483647 := by
    unfold wtv at h
    split at h
    · assumption
    · exact h
  have h2 : w1v p ≤ 2147483647 := by
    have := addv_le (show addv 0 (w1v p) ≤ 2147483647 from h1)
    omega
  have h3 := addv_le h2
  have h4 := addv_nn (n := (p.body.length : Int)) (m := 600) (by omega) (by omega)
  have h5 := mnv_bd p.links.length
  have h6 := addv_le (show addv (p.body.length : Int) 600 ≤ 2147483647 by omega)
  refine ⟨by omega, ?_⟩
  unfold mnv at h3 h5
  split at h3 <;> omega
theorem s_min (T : TypeId) (a b : Int) {w : World} : (Builtin.min_ #[3, 3] T #[.int .i64 a, .int .i64 b]).run Tryz.prog w = .ok (.int .i64 (if b < a then b else a)) w := by
  simp [Builtin.min_, Builtin.min2]
theorem s_ix27 (g n cap k : Nat) (hk : k < n) {w : World} : (Instr.indexAt 27 (.slice (some ⟨g, 0, none⟩) n cap) (.int .i64 (k : Int))).run Tryz.prog w = .ok (.pointer (some ⟨g, k * 5, none⟩)) w := by
  have h1 : (k : Int) < (n : Int) := by omega
  have u := Tryz.underlying27
  have z := Tryz.sizeOf24
  simp [go_sem, u, z, h1]
/-- Two pages in a row. -/
def two5 (v0 v1 v2 v3 v4 : Value) : Array Value := #[v0, v1, v2, v3, v4, v0, v1, v2, v3, v4]
theorem weight_any (p : Pg) (a : Option Addr) (cap g : Nat) (w : World) (hg : w.heap[g]? = some (.cells (two5 (I p.kind) (I p.number) (I p.birth) (.slice a p.links.length cap) (S p.body)) 24 (0, 0))) (hn : p.links.length ≤ 9223372036854775807) (hx : p.body.length ≤ 9223372036854775807) :
    Calls Tryz.prog 10 #[.slice (some ⟨g, 0, none⟩) 2 2] w fun e w' => e = .returned (I (wtv p)) ∧ Below w.heap.size w w' := by
  have HG := hide hg
  have b1 := mnv_bd p.links.length
  have b2 := addv_nn (n := (p.body.length : Int)) (m := 600) (by omega) (by omega)
  have b3 := w1v_bd p
  have A1 := hide (fun W => add2_any (p.body.length : Int) 600 W (by omega) (by omega) (by omega) (by omega))
  have A2 := hide (fun W => add2_any (addv (p.body.length : Int) 600) (16 * mnv p.links.length) W (by omega) (by omega) (by omega) (by omega))
  rw [show addv (addv (p.body.length : Int) 600) (16 * mnv p.links.length) = w1v p from rfl] at A2
  have A3 := hide (fun W k => add2_any (tsv p k) (w1v p) W (tsv_bd p k).1 (by omega) (by have := tsv_bd p k; omega) (by omega))
  have T0 := hide (show tsv p 0 = 0 from rfl)
  have TS := hide (fun k => show tsv p (k + 1) = addv (tsv p k) (w1v p) from rfl)
  have TB := hide (tsv_bd p)
  have HW := hide (show wtv p = if tsv p 1 ≤ 2147483647 then tsv p 2 else tsv p 1 from rfl)
  have HM := hide (show mnv p.links.length = if (2147483647 : Int) < (p.links.length : Int) then 2147483647 else (p.links.length : Int) from rfl)
  generalize w1v p = wv at *
  generalize addv (p.body.length : Int) 600 = u1 at *
  generalize wtv p = wt at *
  generalize tsv p = ts at *
  obtain ⟨k0, m0, b0, l, x⟩ := p
  simp only at *
  generalize hmn : mnv l.length = mn at *
  clear hmn hg
  generalize hll : l.length = lk at *
  clear hll
  go_enter Tryz.func10, Tryz.ntmps10
  go_wp2
  go_loopw [3, 4] (fun t i wr => ∃ j : Nat, j ≤ 2 ∧ i = .int .i64 j ∧ t = I (ts j) ∧ (j = 2 → ts 1 ≤ 2147483647) ∧ Below w.heap.size w wr) (fun _ i _ => 2 - (Go.RowKit.intOf i).toNat)
  case atStart => exact ⟨0, by omega, rfl, by rw [unhide T0], by omega, Below.refl _ _⟩
  case round =>
    obtain ⟨j, hj, rfl, rfl, h12, hb⟩ := hrel
    have HB := hide hb
    have H12 := hide h12
    have htb := unhide TB j
    by_cases hlt : j < 2
    · have hlt' : (j : Int) < 2 := by omega
      by_cases hle : ts j ≤ 2147483647
      · have HT := hide (unhide TS j)
        have A3' := hide (fun W => unhide A3 W j)
        have hgr := (hb.block g (lt_of_row (unhide HG))).trans (unhide HG)
        have hc3 : wr.cell? ⟨g, j * 5 + 3, none⟩ = some (.slice a lk cap) := by
          rcases (show j = 0 ∨ j = 1 by omega) with rfl | rfl
          · exact cell_of_row _ _ 3 _ 24 (0, 0) hgr
          · exact cell_of_row _ _ 8 _ 24 (0, 0) hgr
        have hc4 : wr.cell? ⟨g, j * 5 + 4, none⟩ = some (S x) := by
          rcases (show j = 0 ∨ j = 1 by omega) with rfl | rfl
          · exact cell_of_row _ _ 4 _ 24 (0, 0) hgr
          · exact cell_of_row _ _ 9 _ 24 (0, 0) hgr
        have HC := hide (And.intro hc3 hc4)
        have HL1 := hide (show j + 1 = 2 → ts 1 ≤ 2147483647 from fun q => by rw [show 1 = j by omega]; exact hle)
        rw [← unhide HT] at A3'
        have ht1 := unhide HT
        clear hc3 hc4 hgr hb h12 ht1
        generalize hts : ts (j + 1) = t2 at *
        have HTS := hide hts
        clear hts
        generalize ts j = t at *
        go_upto_region 5 with fail
        refine rwt5 g 2 2 j (j * 5) lk cap a x t u1 wv t2 mn (by kernel_rfl) (by kernel_rfl) (by kernel_rfl) _ _ (by show 33 ≤ Array.size _; simp) rfl rfl rfl (fun _ L W => W = wr.drew ∧ (L 18 = true → L 17 = true) ∧ (L 17 = true → L 0 = true)) ⟨(), rfl, (fun q => nomatch q), (fun q => nomatch q)⟩ ?_ ?_ ?_ ?_ ?_ ?_ ?_ ?_ ?_ ?_ ?_ ?_ ?_
        · intro i hi c L W hW
          simp only [List.mem_cons, List.not_mem_nil, or_false, not_or] at hi
          rw [upd_ne (Ne.symm hi.2.2.1), upd_ne (Ne.symm hi.2.2.2)]
          refine ⟨hW.1, hW.2.1, fun q => ?_⟩
          by_cases e : 0 = i
          · rw [← e]; exact upd_self _ _
          · rw [upd_ne e]; exact hW.2.2 q
        · intro c L W hW hL
          cases q : L 18
          · rfl
          · rw [hW.2.2 (hW.2.1 q)] at hL; cases hL
        · exact fun W => s_ix27 g 2 2 j hlt
        · intro c L W hW _ _
          rw [hW.1]
          exact s_ld Tryz.isAgg9 (unhide HC).2
        · intro c L W hW _ _
          refine (unhide A1 W).mono ?_
          rintro e w' ⟨rfl, hw⟩
          rw [hw]
          exact ⟨c, fun _ _ => rfl, rfl, hW.1, by rw [upd_ne (by decide), upd_ne (by decide)]; exact hW.2.1, by rw [upd_ne (by decide), upd_ne (by decide)]; exact hW.2.2⟩
        · exact fun W => s_ix27 g 2 2 j hlt
        · intro c L W hW _ _
          rw [hW.1]
          exact s_ld Tryz.isAgg22 (unhide HC).1
        · intro T W
          rw [unhide HM]
          exact s_min T _ _
        · exact fun W => s_mul _ _ _ _ (by omega) (by omega)
        · intro c L W hW _ _ _
          refine (unhide A2 W).mono ?_
          rintro e w' ⟨rfl, hw⟩
          rw [hw]
          exact ⟨c, fun _ _ => rfl, rfl, hW.1, by rw [upd_ne (by decide), upd_ne (by decide)]; exact hW.2.1, by rw [upd_ne (by decide), upd_ne (by decide)]; exact hW.2.2⟩
        · intro c L W hW _ h0 _
          refine (unhide A3' W).mono ?_
          rintro e w' ⟨rfl, hw⟩
          rw [hw]
          exact ⟨c, fun _ _ => rfl, rfl, hW.1, fun _ => upd_self _ _, fun _ => by rw [upd_ne (by decide)]; exact h0⟩
        · intro c L W hW _ h17
          exact ⟨hW.1, fun _ => by rw [upd_ne (by decide)]; exact h17, by rw [upd_ne (by decide), upd_ne (by decide)]; exact hW.2.2⟩
        intro _ L W _ hW
        rw [hW.1]
        clear hW
        simp only [Act.put, List.setIfInBounds_toArray, List.set_cons_succ, List.set_cons_zero]
        go_wp2
        go_round
        case measure => simp [Go.RowKit.intOf] <;> omega
        case rel => exact ⟨j + 1, by omega, by simp, by rw [unhide HTS], unhide HL1, (unhide HB).drew⟩
      · have hle' : ¬ ts j ≤ 2147483647 := hle
        obtain rfl : j = 1 := by
          rcases (show j = 0 ∨ j = 1 by omega) with rfl | rfl
          · rw [unhide T0] at hle; omega
          · rfl
        have HR := hide (show ts 1 = wt by rw [unhide HW, if_neg hle])
        clear hb h12 hle
        generalize ts 1 = t at *
        go_wp2
        go_ret
        exact ⟨by rw [← unhide HR]; rfl, unhide HB⟩
    · have hlt' : ¬ (j : Int) < 2 := by omega
      obtain rfl : j = 2 := by omega
      have HR := hide (show ts 2 = wt by rw [unhide HW, if_pos (h12 rfl)])
      clear hb h12
      generalize ts 2 = t at *
      go_wp2
      go_ret
      exact ⟨by rw [← unhide HR]; rfl, unhide HB⟩
end Go.Proofs.YtjopnhhdemfniaaGreatDoor
