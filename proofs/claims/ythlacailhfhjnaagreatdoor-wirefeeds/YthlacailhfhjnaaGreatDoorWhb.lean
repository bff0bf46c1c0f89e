import Derived.Test.YthlacailhfhjnaaGreatDoorZwde
import Derived.Test.YthlacailhfhjnaaGreatDoorZpwa
import Derived.BigQuiet
namespace Go.Proofs.YthlacailhfhjnaaGreatDoor
open Go.RowKit Go.Lib
theorem trim_l (r : Bs) : trimB (32 :: r) 32 = trimB r 32 := by
  unfold trimB trimRightB
  rw [List.reverse_cons]
  have h : ∀ l : Bs, (l ++ [32]).dropWhile (· == (32 : UInt8)) = if l.dropWhile (· == (32 : UInt8)) = [] then [] else l.dropWhile (· == (32 : UInt8)) ++ [32] := by
    intro l
    induction l with
    | nil => rfl
    | cons x l ih =>
      by_cases hx : x = 32
      · subst hx; simpa using ih
      · simp [hx]
  rw [h]
  split
  · rename_i e; rw [e]
  · rw [List.reverse_append]
    simp [trimLeftB]
theorem trim_r (r : Bs) : trimB (r ++ [32]) 32 = trimB r 32 := by
  unfold trimB trimRightB
  simp
theorem trim_id (v : Bs) (h1 : v.head? ≠ some 32) (h2 : v.getLast? ≠ some 32) : trimB v 32 = v := by
  have e : trimRightB v 32 = v := by
    unfold trimRightB
    have : v.reverse.dropWhile (· == (32 : UInt8)) = v.reverse := by
      rw [List.getLast?_eq_head?_reverse] at h2
      cases hr : v.reverse with
      | nil => rfl
      | cons x l => rw [hr] at h2; simp at h2; simp [h2]
    rw [this, List.reverse_reverse]
  unfold trimB
  rw [e]
  unfold trimLeftB
  cases v with
  | nil => rfl
  | cons x l => simp at h1; simp [h1]
theorem ba_of {X : ByteArray} {l : Bs} (h : X.data.toList = l) : X = ⟨l.toArray⟩ := by
  apply ByteArray.ext
  apply Array.ext'
  simpa using h
set_option maxHeartbeats 4000000 in
set_option maxRecDepth 8000 in
theorem trimmed_any (s : Bs) (w : World) (hs : s.length ≤ 9223372036854775806) : Calls Tryz.prog 83 #[S s] w fun e w' => e = .returned (S (trimB s 32)) ∧ w' = w := by
  generalize hT : trimB s 32 = T
  have HT := hide hT
  clear hT
  go_enter Tryz.func83, Tryz.ntmps83
  go_wp2
  go_loop [0] (fun v => ∃ X : ByteArray, v = .string X ∧ X.size ≤ 9223372036854775806 ∧ trimB X.data.toList 32 = T) (fun v => strlen v)
  case atStart => exact ⟨⟨s.toArray⟩, rfl, by rw [ba_size]; exact hs, by simpa using unhide HT⟩
  case round =>
    clear HT
    obtain ⟨X, rfl, q1, q2⟩ := hrel
    by_cases hsp : ∃ r, X.data.toList = 32 :: r
    · obtain ⟨r, hr⟩ := hsp
      have hXe := ba_of hr
      have hXs : X.size = r.length + 1 := by rw [hXe, ba_size]; rfl
      have hpos : 0 < X.size := by rw [hXs]; exact Nat.succ_pos _
      have hC : X[0]'hpos = 32 := by subst hXe; rfl
      have h32 : (((32 : UInt8).toNat : Nat) : Int) = 32 := rfl
      have HX : Hid (X.extract 1 (r.length + 1) = ⟨r.toArray⟩) := hide (by rw [hXe, extract_eq]; simp)
      have HQ := hide (And.intro (show r.length ≤ 9223372036854775806 by omega) (show trimB r 32 = T by rw [← q2, hr, trim_l]))
      have hlen : (0 : Int) < (r.length : Int) + 1 := by omega
      have h1l : (1 : Int) ≤ (r.length : Int) + 1 := by omega
      clear q1 q2 hr hXe
      go_wp2
      refine ⟨⟨⟨r.toArray⟩, ?_, by rw [ba_size]; exact (unhide HQ).1, by simpa using (unhide HQ).2⟩, ?_⟩
      · rw [unhide HX]
      · rw [unhide HX]
        simp only [strlen, ba_size, hXs]
        omega
    · have HH := hide (show X.data.toList.head? ≠ some 32 from fun e => by
        cases hl : X.data.toList with
        | nil => rw [hl] at e; simp at e
        | cons x r => rw [hl] at e; simp at e; exact hsp ⟨r, by rw [hl, e]⟩)
      have hW : (X.size = 0) ∨ (∃ h : 0 < X.size, (X[0]'h).toNat ≠ 32 ∧ (X[0]'h) ≠ 32) := by
        rcases Nat.eq_zero_or_pos X.size with e | e
        · exact .inl e
        · right
          refine ⟨e, ?_⟩
          have hne : X[0]'e ≠ 32 := fun q => unhide HH (by
            cases hl : X.data.toList with
            | nil =>
              have := ba_of hl
              subst this
              simp [ByteArray.size] at e
            | cons x r =>
              have := ba_of hl
              subst this
              have q' : x = 32 := q
              simp [q'])
          exact ⟨fun q => hne (by
            have := UInt8.ofNat_toNat (x := X[0]'e)
            rw [q] at this
            exact this.symm), hne⟩
      have HQ := hide (And.intro q1 q2)
      clear q1 q2 hsp
      rcases hW with h0 | ⟨hp, hn1, hn2⟩
      · go_wp2
        go_loop [0] (fun v => ∃ Y : ByteArray, v = .string Y ∧ Y.size ≤ 9223372036854775806 ∧ trimB Y.data.toList 32 = T ∧ Y.data.toList.head? ≠ some 32) (fun v => strlen v)
        case atStart => exact ⟨X, rfl, (unhide HQ).1, (unhide HQ).2, unhide HH⟩
        case round =>
          clear HQ HH
          obtain ⟨Y, rfl, q1, q2, q3⟩ := hrel
          by_cases hsp : ∃ r, Y.data.toList = r ++ [32]
          · obtain ⟨r, hr⟩ := hsp
            have hXe := ba_of hr
            have hXs : Y.size = r.length + 1 := by rw [hXe, ba_size, List.length_append]; rfl
            have hpos : r.length < Y.size := by rw [hXs]; exact Nat.lt_succ_self _
            have hC : Y[r.length]'hpos = 32 := by
              subst hXe
              show (r ++ [32])[r.length] = 32
              simp
            have h32 : (((32 : UInt8).toNat : Nat) : Int) = 32 := rfl
            have hrl : r.length ≤ 9223372036854775806 := by rw [hXs] at q1; exact Nat.le_of_succ_le q1
            have HX : Hid (Y.extract 0 r.length = ⟨r.toArray⟩) := hide (by rw [hXe, extract_eq]; simp)
            have HQ := hide (And.intro (show r.length ≤ 9223372036854775806 by omega) (And.intro (show trimB r 32 = T by rw [← q2, hr, trim_r]) (show r.head? ≠ some 32 from fun e => q3 (by
              rw [hr]
              cases r with
              | nil => simp at e
              | cons x r => simpa using e))))
            clear q1 q2 q3 hr hXe
            go_wp2
            refine ⟨⟨⟨r.toArray⟩, ?_, by rw [ba_size]; exact (unhide HQ).1, by simpa using (unhide HQ).2.1, by simpa using (unhide HQ).2.2⟩, ?_⟩
            · rw [unhide HX]
            · first | (rw [unhide HX]; done) | (rw [unhide HX]; simp only [strlen, ba_size, hXs]; omega) | (rw [unhide HX]; simp only [strlen, ba_size, hXs])
          · have hL : Y.data.toList.getLast? ≠ some 32 := fun e => hsp (by
              obtain ⟨l, hl⟩ := List.getLast?_eq_some_iff.1 e
              exact ⟨l, hl⟩)
            have HV := hide (show S T = .string Y by
              rw [← q2, trim_id _ q3 hL])
            rcases Nat.eq_zero_or_pos Y.size with e0 | e0
            · clear q1 q2 q3 hL hsp
              go_wp2
              go_ret
              exact ⟨by rw [unhide HV]; rfl, rfl⟩
            · obtain ⟨n, hn⟩ : ∃ n, Y.size = n + 1 := ⟨Y.size - 1, by omega⟩
              have hnl : n < Y.size := by rw [hn]; exact Nat.lt_succ_self _
              have hC : Y[n]'hnl ≠ 32 := fun q => hL (by
                have hYe := ba_of (X := Y) (l := Y.data.toList) rfl
                have hlen : Y.data.toList.length = n + 1 := by rw [Array.length_toList]; exact hn
                rw [List.getLast?_eq_getElem?, hlen]
                have : Y.data.toList[n]? = some (Y[n]'hnl) := by
                  rw [List.getElem?_eq_getElem (by omega)]
                  rfl
                show Y.data.toList[n + 1 - 1]? = _
                rw [Nat.add_sub_cancel, this, q])
              have hC2 : (((Y[n]'hnl).toNat : Nat) : Int) ≠ 32 := fun q => hC (by
                have := UInt8.ofNat_toNat (x := Y[n]'hnl)
                rw [show (Y[n]'hnl).toNat = 32 by omega] at this
                exact this.symm)
              have d1 : ((((Y[n]'hnl).toNat : Nat) : Int) == 32) = false := by rw [beq_eq_false_iff_ne]; exact hC2
              have hn63 : n ≤ 9223372036854775806 := by rw [hn] at q1; exact Nat.le_of_succ_le q1
              clear q1 q2 q3 hL hsp e0
              go_wp2
              go_ret
              exact ⟨by rw [unhide HV]; rfl, rfl⟩
      · have d0 : (0 : Int) < (X.size : Int) := by omega
        have d1 : ((((X[0]'hp).toNat : Nat) : Int) == 32) = false := by rw [beq_eq_false_iff_ne]; omega
        clear hn1 hn2
        go_wp2
        go_loop [0] (fun v => ∃ Y : ByteArray, v = .string Y ∧ Y.size ≤ 9223372036854775806 ∧ trimB Y.data.toList 32 = T ∧ Y.data.toList.head? ≠ some 32) (fun v => strlen v)
        case atStart => exact ⟨X, rfl, (unhide HQ).1, (unhide HQ).2, unhide HH⟩
        case round =>
          clear HQ HH
          obtain ⟨Y, rfl, q1, q2, q3⟩ := hrel
          by_cases hsp : ∃ r, Y.data.toList = r ++ [32]
          · obtain ⟨r, hr⟩ := hsp
            have hXe := ba_of hr
            have hXs : Y.size = r.length + 1 := by rw [hXe, ba_size, List.length_append]; rfl
            have hpos : r.length < Y.size := by rw [hXs]; exact Nat.lt_succ_self _
            have hC : Y[r.length]'hpos = 32 := by
              subst hXe
              show (r ++ [32])[r.length] = 32
              simp
            have h32 : (((32 : UInt8).toNat : Nat) : Int) = 32 := rfl
            have hrl : r.length ≤ 9223372036854775806 := by rw [hXs] at q1; exact Nat.le_of_succ_le q1
            have HX : Hid (Y.extract 0 r.length = ⟨r.toArray⟩) := hide (by rw [hXe, extract_eq]; simp)
            have HQ := hide (And.intro (show r.length ≤ 9223372036854775806 by omega) (And.intro (show trimB r 32 = T by rw [← q2, hr, trim_r]) (show r.head? ≠ some 32 from fun e => q3 (by
              rw [hr]
              cases r with
              | nil => simp at e
              | cons x r => simpa using e))))
            clear q1 q2 q3 hr hXe
            go_wp2
            refine ⟨⟨⟨r.toArray⟩, ?_, by rw [ba_size]; exact (unhide HQ).1, by simpa using (unhide HQ).2.1, by simpa using (unhide HQ).2.2⟩, ?_⟩
            · rw [unhide HX]
            · first | (rw [unhide HX]; done) | (rw [unhide HX]; simp only [strlen, ba_size, hXs]; omega) | (rw [unhide HX]; simp only [strlen, ba_size, hXs])
          · have hL : Y.data.toList.getLast? ≠ some 32 := fun e => hsp (by
              obtain ⟨l, hl⟩ := List.getLast?_eq_some_iff.1 e
              exact ⟨l, hl⟩)
            have HV := hide (show S T = .string Y by
              rw [← q2, trim_id _ q3 hL])
            rcases Nat.eq_zero_or_pos Y.size with e0 | e0
            · clear q1 q2 q3 hL hsp
              go_wp2
              go_ret
              exact ⟨by rw [unhide HV]; rfl, rfl⟩
            · obtain ⟨n, hn⟩ : ∃ n, Y.size = n + 1 := ⟨Y.size - 1, by omega⟩
              have hnl : n < Y.size := by rw [hn]; exact Nat.lt_succ_self _
              have hC : Y[n]'hnl ≠ 32 := fun q => hL (by
                have hYe := ba_of (X := Y) (l := Y.data.toList) rfl
                have hlen : Y.data.toList.length = n + 1 := by rw [Array.length_toList]; exact hn
                rw [List.getLast?_eq_getElem?, hlen]
                have : Y.data.toList[n]? = some (Y[n]'hnl) := by
                  rw [List.getElem?_eq_getElem (by omega)]
                  rfl
                show Y.data.toList[n + 1 - 1]? = _
                rw [Nat.add_sub_cancel, this, q])
              have hC2 : (((Y[n]'hnl).toNat : Nat) : Int) ≠ 32 := fun q => hC (by
                have := UInt8.ofNat_toNat (x := Y[n]'hnl)
                rw [show (Y[n]'hnl).toNat = 32 by omega] at this
                exact this.symm)
              have d1 : ((((Y[n]'hnl).toNat : Nat) : Int) == 32) = false := by rw [beq_eq_false_iff_ne]; exact hC2
              have hn63 : n ≤ 9223372036854775806 := by rw [hn] at q1; exact Nat.le_of_succ_le q1
              clear q1 q2 q3 hL hsp e0
              go_wp2
              go_ret
              exact ⟨by rw [unhide HV]; rfl, rfl⟩
end Go.Proofs.YthlacailhfhjnaaGreatDoor
