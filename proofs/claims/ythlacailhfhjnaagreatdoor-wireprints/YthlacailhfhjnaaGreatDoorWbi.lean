import Derived.Test.YthlacailhfhjnaaGreatDoorWbh
namespace Go.Proofs.YthlacailhfhjnaaGreatDoor
open Go.RowKit Go.Lib
def vp : Bs := [72, 84, 84, 80, 47, 49, 46, 49, 32]
theorem opA_eq (l : Bs) : opA l = if hasPrefix l vp && decide ((hd 32 (trimPrefix l vp)).length < (trimPrefix l vp).length) && num (hd 32 (trimPrefix l vp)) && (tl 32 (trimPrefix l vp)).all shn && decide (100 ≤ vl 0 (hd 32 (trimPrefix l vp)) ∧ vl 0 (hd 32 (trimPrefix l vp)) ≤ 599) then some ⟨[], [], vl 0 (hd 32 (trimPrefix l vp))⟩ else none := by
  have e : (vers ++ [32]).isPrefixOf l = hasPrefix l vp := rfl
  unfold opA
  rw [e]
  unfold trimPrefix
  cases hasPrefix l vp
  · simp
  · rfl
theorem trimPrefix_le (l p : Bs) : (trimPrefix l p).length ≤ l.length := by
  unfold trimPrefix
  split
  · rw [List.length_drop]; omega
  · exact Nat.le_refl _
set_option maxHeartbeats 8000000 in
set_option maxRecDepth 8000 in
theorem answerLine_any {B : Nat} (l : Bs) (w : World) (hl : l.length ≤ 1000000) (hE : Env B w) : Calls Tryz.prog 69 #[S l] w fun e w' => e = .returned (opv (opA l)) ∧ Below w.heap.size w w' := by
  have HO := hide (opA_eq l)
  have g0 := trimPrefix_le l vp
  have g1 := hd_le 32 (trimPrefix l vp)
  have g2 := tl_le 32 (trimPrefix l vp)
  have HP := hide (fun W => Tryz.strings_CutPrefix ⟨l.toArray⟩ ⟨vp.toArray⟩ W)
  have e1 : (ByteArray.mk vp.toArray).data.toList = vp := rfl
  rw [ba_list, e1] at HP
  clear e1
  generalize opA l = O at *
  generalize trimPrefix l vp = Z at *
  generalize hasPrefix l vp = I at *
  have HC := hide (fun W => cut_any Z 32 W (by omega))
  have HN := hide (fun W => isNumber_any (hd 32 Z) W (by omega))
  have HA := hide (fun W => all96_any (tl 32 Z) W (by omega))
  generalize decide ((hd 32 Z).length < Z.length) = d1 at *
  generalize tl 32 Z = T at *
  generalize hd 32 Z = D at *
  have h0 : Below w.heap.size w (w.alloc (.cells #[S [], S [], .int .i64 0] 89)) := (Below.refl _ _).alloc (Nat.le_refl _) _
  have h0s : w.heap.size < (w.alloc (.cells #[S [], S [], .int .i64 0] 89)).heap.size := by simp
  have HE0 := hide (hE.mono.below h0)
  have fin : ∀ n, Below w.heap.size w ((w.alloc (.cells #[S [], S [], .int .i64 0] 89)).drewN n) := fun n => below_dN h0 _
  generalize T.all shn = A at *
  cases I
  · have HO2 := hide (show O = none by rw [unhide HO]; simp)
    clear HO
    go_enter Tryz.func69, Tryz.ntmps69
    go_wp2_with fail
    refine (unhide HP _).mono ?_
    rintro e w1 ⟨rfl, rfl⟩
    go_wp2_with fail
    refine (unhide HC _).mono ?_
    rintro e w1 ⟨rfl, q1, rfl⟩
    go_wp2
    refine bodyPost_ret (v := .tuple #[.agg #[S [], S [], .int .i64 0], .bool false]) (by simp [results, Tryz.results69, go_sem]) rfl ⟨ret_of (by rw [unhide HO2]; rfl), ?_⟩
    exact (((fin _).setCell (Nat.le_refl _) _).setCell (Nat.le_refl _) _).setCell (Nat.le_refl _) _
  cases d1
  · have HO2 := hide (show O = none by rw [unhide HO]; simp)
    clear HO
    go_enter Tryz.func69, Tryz.ntmps69
    go_wp2_with fail
    refine (unhide HP _).mono ?_
    rintro e w1 ⟨rfl, rfl⟩
    go_wp2_with fail
    refine (unhide HC _).mono ?_
    rintro e w1 ⟨rfl, q1, rfl⟩
    go_wp2
    refine bodyPost_ret (v := .tuple #[.agg #[S [], S [], .int .i64 0], .bool false]) (by simp [results, Tryz.results69, go_sem]) rfl ⟨ret_of (by rw [unhide HO2]; rfl), ?_⟩
    exact (((fin _).setCell (Nat.le_refl _) _).setCell (Nat.le_refl _) _).setCell (Nat.le_refl _) _
  by_cases hn : num D = true
  case neg =>
    have hn' : num D = false := by simpa using hn
    rw [hn'] at HN
    have HO2 := hide (show O = none by rw [unhide HO, hn']; simp)
    clear HO
    go_enter Tryz.func69, Tryz.ntmps69
    go_wp2_with fail
    refine (unhide HP _).mono ?_
    rintro e w1 ⟨rfl, rfl⟩
    go_wp2_with fail
    refine (unhide HC _).mono ?_
    rintro e w1 ⟨rfl, q1, rfl⟩
    go_wp2_with (first | (go_at_call 95; refine (unhide HN _).mono ?_; rintro e w' ⟨rfl, rfl⟩))
    refine bodyPost_ret (v := .tuple #[.agg #[S [], S [], .int .i64 0], .bool false]) (by simp [results, Tryz.results69, go_sem]) rfl ⟨ret_of (by rw [unhide HO2]; rfl), ?_⟩
    exact (((fin _).setCell (Nat.le_refl _) _).setCell (Nat.le_refl _) _).setCell (Nat.le_refl _) _
  have HN' := HN
  rw [hn] at HN HO
  cases A
  · have HO2 := hide (show O = none by rw [unhide HO]; simp)
    clear HO
    go_enter Tryz.func69, Tryz.ntmps69
    go_wp2_with fail
    refine (unhide HP _).mono ?_
    rintro e w1 ⟨rfl, rfl⟩
    go_wp2_with fail
    refine (unhide HC _).mono ?_
    rintro e w1 ⟨rfl, q1, rfl⟩
    go_wp2_with (first | (go_at_call 95; refine (unhide HN _).mono ?_; rintro e w' ⟨rfl, rfl⟩) | (go_at_call 86; refine (unhide HA _).mono ?_; rintro e w' ⟨rfl, rfl⟩))
    refine bodyPost_ret (v := .tuple #[.agg #[S [], S [], .int .i64 0], .bool false]) (by simp [results, Tryz.results69, go_sem]) rfl ⟨ret_of (by rw [unhide HO2]; rfl), ?_⟩
    exact (((fin _).setCell (Nat.le_refl _) _).setCell (Nat.le_refl _) _).setCell (Nat.le_refl _) _
  by_cases hv : vl 0 D < 9223372036854775808
  · have HK := hide (fun W => atoi_ok D W (by omega) hn hv)
    have HS := hide (fun W => isStatus_any (vl 0 D : Int) W)
    have HO2 := hide (show O = if stat (vl 0 D : Int) then some ⟨[], [], vl 0 D⟩ else none by
      rw [unhide HO]
      unfold stat
      have : decide (100 ≤ vl 0 D ∧ vl 0 D ≤ 599) = decide (100 ≤ (vl 0 D : Int) ∧ (vl 0 D : Int) ≤ 599) := by
        rw [decide_eq_decide]; omega
      rw [this]
      simp)
    clear HO hn hv HN'
    generalize vl 0 D = V at *
    generalize stat (V : Int) = X at *
    go_enter Tryz.func69, Tryz.ntmps69
    go_wp2_with fail
    refine (unhide HP _).mono ?_
    rintro e w1 ⟨rfl, rfl⟩
    go_wp2_with fail
    refine (unhide HC _).mono ?_
    rintro e w1 ⟨rfl, q1, rfl⟩
    go_wp2_with (first | (go_at_call 95; refine (unhide HN _).mono ?_; rintro e w' ⟨rfl, rfl⟩) | (go_at_call 86; refine (unhide HA _).mono ?_; rintro e w' ⟨rfl, rfl⟩))
    have hblk : ((w.alloc (.cells #[S [], S [], .int .i64 0] 89)).drewN q1).heap[w.heap.size]? = some (.cells #[S [], S [], .int .i64 0] 89 (0, 0)) := by
      show (w.heap.push _)[w.heap.size]? = _
      simp
    have fin1 := hide (fin q1)
    have hs1 : w.heap.size < ((w.alloc (.cells #[S [], S [], .int .i64 0] 89)).drewN q1).heap.size := by simp
    clear fin h0 h0s
    generalize (w.alloc (.cells #[S [], S [], .int .i64 0] 89)).drewN q1 = W1 at *
    refine (unhide HK _).mono ?_
    rintro e w2 ⟨rfl, b2⟩
    have hblk2 := (b2.block w.heap.size hs1).trans hblk
    have c0 : w2.cell? ⟨w.heap.size, 0, none⟩ = some (S []) := by rw [cell_of_row w2 w.heap.size 0 _ 89 (0, 0) hblk2]; rfl
    have c1 : w2.cell? ⟨w.heap.size, 1, none⟩ = some (S []) := by rw [cell_of_row w2 w.heap.size 1 _ 89 (0, 0) hblk2]; rfl
    have c2 : w2.cell? ⟨w.heap.size, 2, none⟩ = some (.int .i64 0) := by rw [cell_of_row w2 w.heap.size 2 _ 89 (0, 0) hblk2]; rfl
    have z0 : ∀ j, w2.frozen? ⟨w.heap.size, j, none⟩ = false := fun j => frozen_of_row w2 w.heap.size j _ 89 hblk2
    have fin2 := hide ((unhide fin1).trans (b2.mono (by omega)))
    clear b2 hblk hblk2
    cases X
    · go_wp2_with (first | (go_at_call 66; refine (unhide HS _).mono ?_; rintro e w' ⟨rfl, rfl⟩))
      refine bodyPost_ret (v := .tuple #[.agg #[S [], S [], .int .i64 0], .bool false]) (by simp [results, Tryz.results69, go_sem, c0, c1, c2]) rfl ⟨ret_of (by rw [unhide HO2]; rfl), ?_⟩
      exact (((unhide fin2).setCell (Nat.le_refl _) _).setCell (Nat.le_refl _) _).setCell (Nat.le_refl _) _
    · go_wp2_with (first | (go_at_call 66; refine (unhide HS _).mono ?_; rintro e w' ⟨rfl, rfl⟩))
      refine bodyPost_ret (v := .tuple #[.agg #[S [], S [], .int .i64 V], .bool true]) (by simp [results, Tryz.results69, go_sem, c0, c1, c2]) rfl ⟨ret_of (by rw [unhide HO2]; rfl), ?_⟩
      exact (((unhide fin2).setCell (Nat.le_refl _) _).setCell (Nat.le_refl _) _).setCell (Nat.le_refl _) _
  · have HK := hide (fun W (hE : Env (w.alloc (.cells #[S [], S [], .int .i64 0] 89)).heap.size W) => atoi_no D W hE (by omega) hn hv)
    have HO2 := hide (show O = none by rw [unhide HO, if_neg (by simp; omega)])
    clear HO hn hv HN'
    have HE0 := hide (unhide HE0).mono
    go_enter Tryz.func69, Tryz.ntmps69
    go_wp2_with fail
    refine (unhide HP _).mono ?_
    rintro e w1 ⟨rfl, rfl⟩
    go_wp2_with fail
    refine (unhide HC _).mono ?_
    rintro e w1 ⟨rfl, q1, rfl⟩
    go_wp2_with (first | (go_at_call 95; refine (unhide HN _).mono ?_; rintro e w' ⟨rfl, rfl⟩) | (go_at_call 86; refine (unhide HA _).mono ?_; rintro e w' ⟨rfl, rfl⟩))
    have hblk : ((w.alloc (.cells #[S [], S [], .int .i64 0] 89)).drewN q1).heap[w.heap.size]? = some (.cells #[S [], S [], .int .i64 0] 89 (0, 0)) := by
      show (w.heap.push _)[w.heap.size]? = _
      simp
    have fin1 := hide (fin q1)
    have HE1 := hide ((unhide HE0).below (below_dN (Below.refl _ _) q1))
    have hs1 : w.heap.size < ((w.alloc (.cells #[S [], S [], .int .i64 0] 89)).drewN q1).heap.size := by simp
    clear fin h0 h0s HE0
    generalize (w.alloc (.cells #[S [], S [], .int .i64 0] 89)).drewN q1 = W1 at *
    refine (unhide HK _ (unhide HE1)).mono ?_
    rintro e w2 ⟨x, ty, pv, rfl, b2⟩
    have hblk2 := (b2.block w.heap.size hs1).trans hblk
    have c0 : w2.cell? ⟨w.heap.size, 0, none⟩ = some (S []) := by rw [cell_of_row w2 w.heap.size 0 _ 89 (0, 0) hblk2]; rfl
    have c1 : w2.cell? ⟨w.heap.size, 1, none⟩ = some (S []) := by rw [cell_of_row w2 w.heap.size 1 _ 89 (0, 0) hblk2]; rfl
    have c2 : w2.cell? ⟨w.heap.size, 2, none⟩ = some (.int .i64 0) := by rw [cell_of_row w2 w.heap.size 2 _ 89 (0, 0) hblk2]; rfl
    have z0 : ∀ j, w2.frozen? ⟨w.heap.size, j, none⟩ = false := fun j => frozen_of_row w2 w.heap.size j _ 89 hblk2
    have fin2 := hide ((unhide fin1).trans (b2.mono (by omega)))
    clear b2 hblk hblk2
    go_wp2
    refine bodyPost_ret (v := .tuple #[.agg #[S [], S [], .int .i64 0], .bool false]) (by simp [results, Tryz.results69, go_sem, c0, c1, c2]) rfl ⟨ret_of (by rw [unhide HO2]; rfl), ?_⟩
    exact (((unhide fin2).setCell (Nat.le_refl _) _).setCell (Nat.le_refl _) _).setCell (Nat.le_refl _) _
end Go.Proofs.YthlacailhfhjnaaGreatDoor
