import Derived.Test.YthlacailhfhjnaaGreatDoorWdi
import Derived.Test.YthlacailhfhjnaaGreatDoorZzat
import Derived.Test.YthlacailhfhjnaaGreatDoorZzbh
import Derived.BigQuiet
import Derived.Test.YthlacailhfhjnaaGreatDoorZzau
namespace Go.Proofs.YthlacailhfhjnaaGreatDoor
open Go.RowKit Go.Lib
theorem trim_l (r : Bs) : trimB (32 :: r) 32 = trimB r 32 := by
  unfold trimB trimRightB
  rw [List.reverse_cons]
  have h : ∀ l : Bs, (l ++ [32]).dropWhile (· == (32 : UInt8)) = if l.dropWhile (· == (32 : UInt8)) = [] then [] else l.dropWhile (· == (32 : UInt8)) ++ [32] := by
    intro l
    induction l with
    | nil => rfl
    | cons x l ih =>
      by_cases hx : x = 32
      · subst hx; simpa using ih
      · simp [hx]
  rw [h]
  split
  · rename_i e; rw [e]
  · rw [List.reverse_append]
    simp [trimLeftB]
theorem trim_r (r : Bs) : trimB (r ++ [32]) 32 = trimB r 32 := by
  unfold trimB trimRightB
  simp
theorem trim_id (v : Bs) (h1 : v.head? ≠ some 32) (h2 : v.getLast? ≠ some 32) : trimB v 32 = v := by
  have e : trimRightB v 32 = v := by
    unfold trimRightB
    have : v.reverse.dropWhile (· == (32 : UInt8)) = v.reverse := by
      rw [List.getLast?_eq_head?_reverse] at h2
      cases hr : v.reverse with
      | nil => rfl
      | cons x l => rw [hr] at h2; simp at h2; simp [h2]
    rw [this, List.reverse_reverse]
  unfold trimB
  rw [e]
  unfold trimLeftB
  cases v with
  | nil => rfl
  | cons x l => simp at h1; simp [h1]
theorem ba_of {X : ByteArray} {l : Bs} (h : X.data.toList = l) : X = ⟨l.toArray⟩ := by
  apply ByteArray.ext
  apply Array.ext'
  simpa using h
set_option maxHeartbeats 4000000 in
set_option maxRecDepth 8000 in
theorem trimmed_any (s : Bs) (w : World) (hs : s.length ≤ 9223372036854775806) : Calls Tryz.prog 83 #[S s] w fun e w' => e = .returned (S (trimB s 32)) ∧ w' = w := by
  generalize hT : trimB s 32 = T
  have HT := hide hT
  clear hT
  go_enter Tryz.func83, Tryz.ntmps83
  go_wp2
  go_loop [0] (fun v => ∃ X : ByteArray, v = .string X ∧ X.size ≤ 9223372036854775806 ∧ trimB X.data.toList 32 = T) (fun v => strlen v)
  case atStart => exact ⟨⟨s.toArray⟩, rfl, by rw [ba_size]; exact hs, by simpa using unhide HT⟩
  case round =>
    clear HT
    obtain ⟨X, rfl, q1, q2⟩ := hrel
    by_cases hsp : ∃ r, X.data.toList = 32 :: r
    · obtain ⟨r, hr⟩ := hsp
      have hXe := ba_of hr
      have hXs : X.size = r.length + 1 := by rw [hXe, ba_size]; rfl
      have hpos : 0 < X.size := by rw [hXs]; exact Nat.succ_pos _
      have hC : X[0]'hpos = 32 := by subst hXe; rfl
      have h32 : (((32 : UInt8).toNat : Nat) : Int) = 32 := rfl
      have HX : Hid (X.extract 1 (r.length + 1) = ⟨r.toArray⟩) := hide (by rw [hXe, extract_eq]; simp)
      have HQ := hide (And.intro (show r.length ≤ 9223372036854775806 by omega) (show trimB r 32 = T by rw [← q2, hr, trim_l]))
      have hlen : (0 : Int) < (r.length : Int) + 1 := by omega
      have h1l : (1 : Int) ≤ (r.length : Int) + 1 := by omega
      clear q1 q2 hr hXe
      go_wp2
      refine ⟨⟨⟨r.toArray⟩, ?_, by rw [ba_size]; exact (unhide HQ).1, by simpa using (unhide HQ).2⟩, ?_⟩
      · rw [unhide HX]
      · rw [unhide HX]
        simp only [strlen, ba_size, hXs]
        omega
    · have HH := hide (show X.data.toList.head? ≠ some 32 from fun e => by
        cases hl : X.data.toList with
        | nil => rw [hl] at e; simp at e
        | cons x r => rw [hl] at e; simp at e; exact hsp ⟨r, by rw [hl, e]⟩)
      have hW : (X.size = 0) ∨ (∃ h : 0 < X.size, (X[0]'h).toNat ≠ 32 ∧ (X[0]'h) ≠ 32) := by
        rcases Nat.eq_zero_or_pos X.size with e | e
        · exact .inl e
        · right
          refine ⟨e, ?_⟩
          have hne : X[0]'e ≠ 32 := fun q => unhide HH (by
            cases hl : X.data.toList with
            | nil =>
              have := ba_of hl
              subst this
              simp [ByteArray.size] at e
            | cons x r =>
              have := ba_of hl
              subst this
              have q' : x = 32 := q
              simp [q'])
          exact ⟨fun q => hne (by
            have := UInt8.ofNat_toNat (x := X[0]'e)
            rw [q] at this
            exact this.symm), hne⟩
      have HQ := hide (And.intro q1 q2)
      clear q1 q2 hsp
      rcases hW with h0 | ⟨hp, hn1, hn2⟩
      · go_wp2
        go_loop [0] (fun v => ∃ Y : ByteArray, v = .string Y ∧ Y.size ≤ 9223372036854775806 ∧ trimB Y.data.toList 32 = T ∧ Y.data.toList.head? ≠ some 32) (fun v => strlen v)
        case atStart => exact ⟨X, rfl, (unhide HQ).1, (unhide HQ).2, unhide HH⟩
        case round =>
          clear HQ HH
          obtain ⟨Y, rfl, q1, q2, q3⟩ := hrel
          by_cases hsp : ∃ r, Y.data.toList = r ++ [32]
          · obtain ⟨r, hr⟩ := hsp
            have hXe := ba_of hr
            have hXs : Y.size = r.length + 1 := by rw [hXe, ba_size, List.length_append]; rfl
            have hpos : r.length < Y.size := by rw [hXs]; exact Nat.lt_succ_self _
            have hC : Y[r.length]'hpos = 32 := by
              subst hXe
              show (r ++ [32])[r.length] = 32
              simp
            have h32 : (((32 : UInt8).toNat : Nat) : Int) = 32 := rfl
            have hrl : r.length ≤ 9223372036854775806 := by rw [hXs] at q1; exact Nat.le_of_succ_le q1
            have HX : Hid (Y.extract 0 r.length = ⟨r.toArray⟩) := hide (by rw [hXe, extract_eq]; simp)
            have HQ := hide (And.intro (show r.length ≤ 9223372036854775806 by omega) (And.intro (show trimB r 32 = T by rw [← q2, hr, trim_r]) (show r.head? ≠ some 32 from fun e => q3 (by
              rw [hr]
              cases r with
              | nil => simp at e
              | cons x r => simpa using e))))
            clear q1 q2 q3 hr hXe
            go_wp2
            refine ⟨⟨⟨r.toArray⟩, ?_, by rw [ba_size]; exact (unhide HQ).1, by simpa using (unhide HQ).2.1, by simpa using (unhide HQ).2.2⟩, ?_⟩
            · rw [unhide HX]
            · first | (rw [unhide HX]; done) | (rw [unhide HX]; simp only [strlen, ba_size, hXs]; omega) | (rw [unhide HX]; simp only [strlen, ba_size, hXs])
          · have hL : Y.data.toList.getLast? ≠ some 32 := fun e => hsp (by
              obtain ⟨l, hl⟩ := List.getLast?_eq_some_iff.1 e
              exact ⟨l, hl⟩)
            have HV := hide (show S T = .string Y by
              rw [← q2, trim_id _ q3 hL])
            rcases Nat.eq_zero_or_pos Y.size with e0 | e0
            · clear q1 q2 q3 hL hsp
              go_wp2
              go_ret
              exact ⟨by rw [unhide HV]; rfl, rfl⟩
            · obtain ⟨n, hn⟩ : ∃ n, Y.size = n + 1 := ⟨Y.size - 1, by omega⟩
              have hnl : n < Y.size := by rw [hn]; exact Nat.lt_succ_self _
              have hC : Y[n]'hnl ≠ 32 := fun q => hL (by
                have hYe := ba_of (X := Y) (l := Y.data.toList) rfl
                have hlen : Y.data.toList.length = n + 1 := by rw [Array.length_toList]; exact hn
                rw [List.getLast?_eq_getElem?, hlen]
                have : Y.data.toList[n]? = some (Y[n]'hnl) := by
                  rw [List.getElem?_eq_getElem (by omega)]
                  rfl
                show Y.data.toList[n + 1 - 1]? = _
                rw [Nat.add_sub_cancel, this, q])
              have hC2 : (((Y[n]'hnl).toNat : Nat) : Int) ≠ 32 := fun q => hC (by
                have := UInt8.ofNat_toNat (x := Y[n]'hnl)
                rw [show (Y[n]'hnl).toNat = 32 by omega] at this
                exact this.symm)
              have d1 : ((((Y[n]'hnl).toNat : Nat) : Int) == 32) = false := by rw [beq_eq_false_iff_ne]; exact hC2
              have hn63 : n ≤ 9223372036854775806 := by rw [hn] at q1; exact Nat.le_of_succ_le q1
              clear q1 q2 q3 hL hsp e0
              go_wp2
              go_ret
              exact ⟨by rw [unhide HV]; rfl, rfl⟩
      · have d0 : (0 : Int) < (X.size : Int) := by omega
        have d1 : ((((X[0]'hp).toNat : Nat) : Int) == 32) = false := by rw [beq_eq_false_iff_ne]; omega
        clear hn1 hn2
        go_wp2
        go_loop [0] (fun v => ∃ Y : ByteArray, v = .string Y ∧ Y.size ≤ 9223372036854775806 ∧ trimB Y.data.toList 32 = T ∧ Y.data.toList.head? ≠ some 32) (fun v => strlen v)
        case atStart => exact ⟨X, rfl, (unhide HQ).1, (unhide HQ).2, unhide HH⟩
        case round =>
          clear HQ HH
          obtain ⟨Y, rfl, q1, q2, q3⟩ := hrel
          by_cases hsp : ∃ r, Y.data.toList = r ++ [32]
          · obtain ⟨r, hr⟩ := hsp
            have hXe := ba_of hr
            have hXs : Y.size = r.length + 1 := by rw [hXe, ba_size, List.length_append]; rfl
            have hpos : r.length < Y.size := by rw [hXs]; exact Nat.lt_succ_self _
            have hC : Y[r.length]'hpos = 32 := by
              subst hXe
              show (r ++ [32])[r.length] = 32
              simp
            have h32 : (((32 : UInt8).toNat : Nat) : Int) = 32 := rfl
            have hrl : r.length ≤ 9223372036854775806 := by rw [hXs] at q1; exact Nat.le_of_succ_le q1
            have HX : Hid (Y.extract 0 r.length = ⟨r.toArray⟩) := hide (by rw [hXe, extract_eq]; simp)
            have HQ := hide (And.intro (show r.length ≤ 9223372036854775806 by omega) (And.intro (show trimB r 32 = T by rw [← q2, hr, trim_r]) (show r.head? ≠ some 32 from fun e => q3 (by
              rw [hr]
              cases r with
              | nil => simp at e
              | cons x r => simpa using e))))
            clear q1 q2 q3 hr hXe
            go_wp2
            refine ⟨⟨⟨r.toArray⟩, ?_, by rw [ba_size]; exact (unhide HQ).1, by simpa using (unhide HQ).2.1, by simpa using (unhide HQ).2.2⟩, ?_⟩
            · rw [unhide HX]
            · first | (rw [unhide HX]; done) | (rw [unhide HX]; simp only [strlen, ba_size, hXs]; omega) | (rw [unhide HX]; simp only [strlen, ba_size, hXs])
          · have hL : Y.data.toList.getLast? ≠ some 32 := fun e => hsp (by
              obtain ⟨l, hl⟩ := List.getLast?_eq_some_iff.1 e
              exact ⟨l, hl⟩)
            have HV := hide (show S T = .string Y by
              rw [← q2, trim_id _ q3 hL])
            rcases Nat.eq_zero_or_pos Y.size with e0 | e0
            · clear q1 q2 q3 hL hsp
              go_wp2
              go_ret
              exact ⟨by rw [unhide HV]; rfl, rfl⟩
            · obtain ⟨n, hn⟩ : ∃ n, Y.size = n + 1 := ⟨Y.size - 1, by omega⟩
              have hnl : n < Y.size := by rw [hn]; exact Nat.lt_succ_self _
              have hC : Y[n]'hnl ≠ 32 := fun q => hL (by
                have hYe := ba_of (X := Y) (l := Y.data.toList) rfl
                have hlen : Y.data.toList.length = n + 1 := by rw [Array.length_toList]; exact hn
                rw [List.getLast?_eq_getElem?, hlen]
                have : Y.data.toList[n]? = some (Y[n]'hnl) := by
                  rw [List.getElem?_eq_getElem (by omega)]
                  rfl
                show Y.data.toList[n + 1 - 1]? = _
                rw [Nat.add_sub_cancel, this, q])
              have hC2 : (((Y[n]'hnl).toNat : Nat) : Int) ≠ 32 := fun q => hC (by
                have := UInt8.ofNat_toNat (x := Y[n]'hnl)
                rw [show (Y[n]'hnl).toNat = 32 by omega] at this
                exact this.symm)
              have d1 : ((((Y[n]'hnl).toNat : Nat) : Int) == 32) = false := by rw [beq_eq_false_iff_ne]; exact hC2
              have hn63 : n ≤ 9223372036854775806 := by rw [hn] at q1; exact Nat.le_of_succ_le q1
              clear q1 q2 q3 hL hsp e0
              go_wp2
              go_ret
              exact ⟨by rw [unhide HV]; rfl, rfl⟩
end Go.Proofs.YthlacailhfhjnaaGreatDoor
namespace Go.Proofs.YthlacailhfhjnaaGreatDoor
open Go.RowKit Go.Lib
theorem hd_stop (c : UInt8) (s : Bs) (k : Nat) (h : k < s.length) (hk : k ≤ (hd c s).length) : s[k] = c ↔ (hd c s).length = k := by
  obtain ⟨h1, h2⟩ := hd_split c s
  constructor
  · intro e
    rcases Nat.lt_or_eq_of_le hk with q | q
    · exfalso
      have h3 : (hd c s)[k]'q = s[k] := by
        have : s.take (hd c s).length = hd c s := hd_take c s
        have h4 : (s.take (hd c s).length)[k]? = (hd c s)[k]? := by rw [this]
        rw [List.getElem?_take, if_pos q, List.getElem?_eq_getElem h, List.getElem?_eq_getElem q] at h4
        exact (Option.some.inj h4).symm
      exact h1 _ (List.getElem_mem q) (h3.trans e)
    · exact q.symm
  · intro e
    rcases h2 with ⟨h3, h4⟩ | ⟨h3, _⟩
    · have : s[k]? = some c := by
        rw [h4, List.getElem?_append_right (by omega), e]
        simp
      rw [List.getElem?_eq_getElem h] at this
      exact Option.some.inj this
    · omega
def rct (c : UInt8) (s : Bs) : Value := if (hd c s).length < s.length then .tuple #[S (hd c s), S (tl c s), .bool true] else .tuple #[S [], S [], .bool false]
set_option maxHeartbeats 4000000 in
set_option maxRecDepth 8000 in
theorem rcut_any (c : UInt8) (s : Bs) (w : World) (hs : s.length ≤ 9223372036854775806) : Calls Tryz.prog 80 #[S s, .int .u8 (c.toNat : Int)] w fun e w' => e = .returned (rct c s) ∧ Below w.heap.size w w' := by
  have HR := hide (show rct c s = if (hd c s).length < s.length then .tuple #[S (hd c s), S (tl c s), .bool true] else .tuple #[S [], S [], .bool false] from rfl)
  have HST := hide (fun k h hk => hd_stop c s k h hk)
  have HLE := hide (hd_le c s)
  have HTK := hide (hd_take c s)
  have HTL := hide (fun h => tl_drop c s h)
  generalize rct c s = R at *
  go_enter Tryz.func80, Tryz.ntmps80
  go_wp2
  go_loopw [7] (fun i wr => ∃ k : Nat, k ≤ s.length ∧ i = .int .i64 k ∧ k ≤ (hd c s).length ∧ wr = w) (fun i _ => s.length - (Go.RowKit.intOf i).toNat)
  case atStart => exact ⟨0, by omega, rfl, by omega, rfl⟩
  case round =>
    obtain ⟨k, hk, rfl, hh, rfl⟩ := hrel
    by_cases hlt : k < s.length
    · have hsz : k < (ByteArray.mk s.toArray).size := by simpa [ByteArray.size] using hlt
      have hC : (ByteArray.mk s.toArray)[k]'hsz = s[k] := rfl
      have hklt : (k : Int) < (s.length : Int) := by omega
      by_cases hc : s[k] = c
      · have he := (unhide HST k hlt hh).1 hc
        have hcc : ((s[k].toNat : Nat) : Int) = (c.toNat : Int) := by rw [hc]
        have HX1 : Hid ((ByteArray.mk s.toArray).extract 0 k = ⟨(hd c s).toArray⟩) := hide (by rw [extract_eq, List.drop_zero, Nat.sub_zero, ← he, unhide HTK])
        have HX2 : Hid ((ByteArray.mk s.toArray).extract (k + 1) s.length = ⟨(tl c s).toArray⟩) := hide (by rw [extract_eq, unhide HTL (by omega), he, List.take_of_length_le (by simp)])
        have hF := unhide HR
        rw [if_pos (by omega)] at hF
        have HF := hide hF
        have hk1 : (k : Int) + 1 ≤ (s.length : Int) := by omega
        have hk2 : (k : Int) ≤ (s.length : Int) := by omega
        clear he hF hc HR HST HLE HTK HTL hh
        go_wp2_with fail
        go_quiet (fail)
        have HB := hide (below_dN (Below.refl wr.heap.size wr) nq)
        generalize wr.drewN nq = wv at *
        go_wp2
        go_ret3
        refine ⟨?_, unhide HB⟩
        rw [unhide HF]
        show Ending.returned (.tuple #[.string ((ByteArray.mk s.toArray).extract 0 k), .string ((ByteArray.mk s.toArray).extract (k + 1) s.length), .bool true]) = _
        rw [unhide HX1, unhide HX2]
      · have he : k + 1 ≤ (hd c s).length := by
          rcases Nat.lt_or_eq_of_le hh with q | q
          · exact q
          · exact absurd ((unhide HST k hlt hh).2 q.symm) hc
        have hcc : (((s[k].toNat : Nat) : Int) == (c.toNat : Int)) = false := by
          rw [beq_eq_false_iff_ne]
          intro q
          exact hc (UInt8.toNat_inj.1 (by omega))
        have HE := hide he
        clear he hh hc
        go_wp2
        refine ⟨⟨k + 1, by omega, by go_num, unhide HE, trivial⟩, ?_⟩
        simp [Go.RowKit.intOf]; omega
    · have hF := unhide HR
      rw [if_neg (by have := unhide HLE; omega)] at hF
      have HF := hide hF
      have hklt : ¬ (k : Int) < (s.length : Int) := by omega
      clear hF hh
      go_wp2
      go_ret3
      exact ⟨by rw [unhide HF]; rfl, Below.refl _ _⟩
end Go.Proofs.YthlacailhfhjnaaGreatDoor
namespace Go.Proofs.YthlacailhfhjnaaGreatDoor
open Go.RowKit Go.Lib
/-- A line that begins at a place. -/
def lnv (s : Bs) (at' : Nat) : Value :=
  if 1001 < (hd 10 (s.drop at')).length then .tuple #[S [], .int .i64 0, .bool false, .bool true] else if (hd 10 (s.drop at')).length < (s.drop at').length then .tuple #[S (cutr (hd 10 (s.drop at'))), .int .i64 ((at' + (hd 10 (s.drop at')).length + 1 : Nat) : Int), .bool (ret (hd 10 (s.drop at'))), .bool false] else .tuple #[S [], .int .i64 0, .bool false, .bool false]
theorem ret_take (t : Bs) (k : Nat) (h : k + 1 ≤ t.length) : ret (t.take (k + 1)) = (t[k] == 13) ∧ (ret (t.take (k + 1)) = true → cutr (t.take (k + 1)) = t.take k) := by
  have e : t.take (k + 1) = t.take k ++ [t[k]] := List.take_succ_eq_append_getElem (by omega)
  have h1 : ret (t.take (k + 1)) = (t[k] == 13) := by
    rw [e]
    unfold ret
    rw [List.getLast?_append]
    simp
  refine ⟨h1, fun h2 => ?_⟩
  unfold cutr
  rw [if_pos h2, e, List.dropLast_concat]
theorem cutr_no {e : Bs} (h : ret e = false) : cutr e = e := by
  unfold cutr
  rw [h]
  rfl
set_option maxHeartbeats 4000000 in
set_option maxRecDepth 8000 in
theorem rline_any (s : Bs) (at' : Nat) (w : World) (hs : s.length ≤ 9000000000000000000) (ha : at' ≤ s.length) : Calls Tryz.prog 77 #[S s, .int .i64 (at' : Int)] w fun e w' => e = .returned (lnv s at') ∧ w' = w := by
  obtain ⟨t, ht⟩ : ∃ t, t = s.drop at' := ⟨_, rfl⟩
  have hR : lnv s at' = if 1001 < (hd 10 t).length then .tuple #[S [], .int .i64 0, .bool false, .bool true] else if (hd 10 t).length < t.length then .tuple #[S (cutr (hd 10 t)), .int .i64 ((at' + (hd 10 t).length + 1 : Nat) : Int), .bool (ret (hd 10 t)), .bool false] else .tuple #[S [], .int .i64 0, .bool false, .bool false] := by rw [ht]; rfl
  have hlen : t.length = s.length - at' := by rw [ht, List.length_drop]
  have hget : ∀ k (h : k < t.length) (h2 : at' + k < s.length), s[at' + k] = t[k] := fun k h h2 => by subst ht; simp
  have hex : ∀ j, (ByteArray.mk s.toArray).extract at' (at' + j) = ⟨(t.take j).toArray⟩ := fun j => by rw [extract_eq, ht, Nat.add_sub_cancel_left]
  have HR := hide hR
  have HLE := hide (hd_le 10 t)
  have HST := hide (fun k h hk => hd_stop 10 t k h hk)
  have HTK := hide (hd_take 10 t)
  have HG := hide hget
  have HX := hide hex
  have HL := hide hlen
  generalize lnv s at' = R at *
  clear hR hget hex hlen ht
  go_enter Tryz.func77, Tryz.ntmps77
  go_wp2
  go_loop [8] (fun i => ∃ k : Nat, at' + k ≤ s.length ∧ i = .int .i64 ((at' + k : Nat) : Int) ∧ k ≤ (hd 10 t).length ∧ k ≤ 1002) (fun i => s.length - (Go.RowKit.intOf i).toNat)
  case atStart => exact ⟨0, by omega, by simp, by omega, by omega⟩
  case round =>
    obtain ⟨k, hk, rfl, hh, hk2⟩ := hrel
    obtain ⟨j, hj⟩ : ∃ j, j = at' + k := ⟨_, rfl⟩
    rw [← hj]
    have hl := unhide HL
    by_cases hlt : k < t.length
    · have hjs : j < s.length := by omega
      have hsz : j < (ByteArray.mk s.toArray).size := by simpa [ByteArray.size] using hjs
      have hC : (ByteArray.mk s.toArray)[j]'hsz = t[k] := by
        have := unhide HG k hlt (by omega)
        subst hj
        exact this
      have hklt : (j : Int) < (s.length : Int) := by omega
      by_cases hlong : 1001 < k
      · have i1 : (1001 : Int) < (j : Int) - (at' : Int) := by omega
        have hF := unhide HR
        rw [if_pos (by omega)] at hF
        have HF := hide hF
        clear hF hh hj
        go_wp2
        refine bodyPost_ret (v := .tuple #[S [], .int .i64 0, .bool false, .bool true]) (by simp [results, Tryz.results77, go_sem]) rfl ⟨?_, rfl⟩
        rw [unhide HF]
      · have i1 : ¬ (1001 : Int) < (j : Int) - (at' : Int) := by omega
        by_cases hc : t[k] = 10
        · have he := (unhide HST k hlt hh).1 hc
          have hF := unhide HR
          rw [if_neg (by omega), if_pos (by omega), he, ← hj] at hF
          have hcc : ((t[k].toNat : Nat) : Int) = 10 := by rw [hc]; rfl
          rw [← unhide HTK, he] at hF
          rcases Nat.eq_zero_or_pos k with h0 | h0
          · subst h0
            have hjat : (at' : Int) = (j : Int) := by omega
            have HX1 : Hid ((ByteArray.mk s.toArray).extract at' j = ⟨([] : Bs).toArray⟩) := hide (by rw [hj, unhide HX 0]; rfl)
            have HF := hide hF
            have hjat2 : at' = j := by omega
            subst hjat2
            clear hF hh hj he hc
            go_wp2
            refine bodyPost_ret (v := .tuple #[.string ((ByteArray.mk s.toArray).extract at' at'), .int .i64 ((at' : Int) + 1), .bool false, .bool false]) (by simp [results, Tryz.results77, go_sem]) rfl ⟨?_, rfl⟩
            rw [unhide HX1, unhide HF]
            rfl
          · obtain ⟨k', rfl⟩ : ∃ k', k = k' + 1 := ⟨k - 1, by omega⟩
            have hk'l : k' < t.length := Nat.lt_of_succ_lt hlt
            obtain ⟨r1, r2⟩ := ret_take t k' (by omega)
            have hjat : (at' : Int) < (j : Int) := by omega
            obtain ⟨j', hj'⟩ : ∃ j', j = j' + 1 := ⟨j - 1, by omega⟩
            have hsub : (j : Int) - 1 = (j' : Int) := by omega
            have hsz2 : j' < (ByteArray.mk s.toArray).size := by omega
            have HJ' := hide hj'
            have hC2 : (ByteArray.mk s.toArray)[j']'hsz2 = (t[k']'hk'l) := by
              have := unhide HG k' (by omega) (by omega)
              have e : at' + k' = j' := by omega
              subst e
              exact this
            by_cases h13 : (t[k']'hk'l) = 13
            · have hr : ret (t.take (k' + 1)) = true := by rw [r1, h13]; rfl
              rw [hr, r2 hr] at hF
              have HX1 : Hid ((ByteArray.mk s.toArray).extract at' j' = ⟨(t.take k').toArray⟩) := hide (by rw [show j' = at' + k' by omega, unhide HX k'])
              have h13i : (((t[k']'hk'l).toNat : Nat) : Int) = 13 := by rw [h13]; rfl
              have HF := hide hF
              have hle : (at' : Int) ≤ (j' : Int) := by omega
              have hle2 : (j' : Int) ≤ (s.length : Int) := by omega
              clear hF hh hj hj' he hc r1 r2 hr h13
              go_wp2
              refine bodyPost_ret (v := .tuple #[.string ((ByteArray.mk s.toArray).extract at' j'), .int .i64 ((j : Int) + 1), .bool true, .bool false]) (by simp [results, Tryz.results77, go_sem]) rfl ⟨?_, rfl⟩
              rw [unhide HX1, unhide HF]
              rfl
            · have hr : ret (t.take (k' + 1)) = false := by rw [r1]; simpa using h13
              rw [hr, cutr_no hr] at hF
              have HX1 : Hid ((ByteArray.mk s.toArray).extract at' j = ⟨(t.take (k' + 1)).toArray⟩) := hide (by rw [show j = at' + (k' + 1) by omega, unhide HX (k' + 1)])
              have h13i : ((((t[k']'hk'l).toNat : Nat) : Int) == 13) = false := by
                rw [beq_eq_false_iff_ne]
                intro q
                exact h13 (UInt8.toNat_inj.1 (by show (t[k']'hk'l).toNat = 13; omega))
              have HF := hide hF
              have hle : (at' : Int) ≤ (j : Int) := by omega
              have hle2 : (j : Int) ≤ (s.length : Int) := by omega
              clear hF hh hj hj' he hc r1 r2 hr h13
              go_wp2
              refine bodyPost_ret (v := .tuple #[.string ((ByteArray.mk s.toArray).extract at' j), .int .i64 ((j : Int) + 1), .bool false, .bool false]) (by simp [results, Tryz.results77, go_sem]) rfl ⟨?_, rfl⟩
              rw [unhide HX1, unhide HF]
              rfl
        · have he : k + 1 ≤ (hd 10 t).length := by
            rcases Nat.lt_or_eq_of_le hh with q | q
            · exact q
            · exact absurd ((unhide HST k hlt hh).2 q.symm) hc
          have hcc : (((t[k].toNat : Nat) : Int) == 10) = false := by
            rw [beq_eq_false_iff_ne]
            intro q
            exact hc (UInt8.toNat_inj.1 (by show t[k].toNat = 10; omega))
          have HE := hide (And.intro he hj)
          clear he hh hc hj
          go_wp2
          have hj := (unhide HE).2
          refine ⟨⟨k + 1, by omega, ?_, (unhide HE).1, by omega⟩, ?_⟩
          · congr 1; omega
          · simp [Go.RowKit.intOf]; omega
    · have hF := unhide HR
      have hle := unhide HLE
      have hjl : (j : Int) = (s.length : Int) := by omega
      have hklt : ¬ (j : Int) < (s.length : Int) := by omega
      by_cases hlong : 1001 < k
      · have i1 : (1001 : Int) < (s.length : Int) - (at' : Int) := by omega
        rw [if_pos (by omega)] at hF
        have HF := hide hF
        clear hF hh hj hjl
        go_wp2
        refine bodyPost_ret (v := .tuple #[S [], .int .i64 0, .bool false, .bool true]) (by simp [results, Tryz.results77, go_sem]) rfl ⟨?_, rfl⟩
        rw [unhide HF]
      · have i1 : decide ((1001 : Int) < (s.length : Int) - (at' : Int)) = false := decide_eq_false (by omega)
        rw [if_neg (by omega), if_neg (by omega)] at hF
        have HF := hide hF
        clear hF hh hj hjl
        go_wp2
        refine bodyPost_ret (v := .tuple #[S [], .int .i64 0, .bool false, .bool false]) (by simp [results, Tryz.results77, go_sem]) rfl ⟨?_, rfl⟩
        rw [unhide HF]
end Go.Proofs.YthlacailhfhjnaaGreatDoor
