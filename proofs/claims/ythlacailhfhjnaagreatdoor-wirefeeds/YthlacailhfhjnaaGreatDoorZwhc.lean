import Derived.Test.YthlacailhfhjnaaGreatDoorWhb
import Derived.Test.YthlacailhfhjnaaGreatDoorZwde
import Derived.Test.YthlacailhfhjnaaGreatDoorZwdd
import Derived.BigQuiet
namespace Go.Proofs.YthlacailhfhjnaaGreatDoor
open Go.RowKit Go.Lib
theorem hd_stop (c : UInt8) (s : Bs) (k : Nat) (h : k < s.length) (hk : k ≤ (hd c s).length) : s[k] = c ↔ (hd c s).length = k := by
  obtain ⟨h1, h2⟩ := hd_split c s
  constructor
  · intro e
    rcases Nat.lt_or_eq_of_le hk with q | q
    · exfalso
      have h3 : (hd c s)[k]'q = s[k] := by
        have : s.take (hd c s).length = hd c s := hd_take c s
        have h4 : (s.take (hd c s).length)[k]? = (hd c s)[k]? := by rw [this]
        rw [List.getElem?_take, if_pos q, List.getElem?_eq_getElem h, List.getElem?_eq_getElem q] at h4
        exact (Option.some.inj h4).symm
      exact h1 _ (List.getElem_mem q) (h3.trans e)
    · exact q.symm
  · intro e
    rcases h2 with ⟨h3, h4⟩ | ⟨h3, _⟩
    · have : s[k]? = some c := by
        rw [h4, List.getElem?_append_right (by omega), e]
        simp
      rw [List.getElem?_eq_getElem h] at this
      exact Option.some.inj this
    · omega
def rct (c : UInt8) (s : Bs) : Value := if (hd c s).length < s.length then .tuple #[S (hd c s), S (tl c s), .bool true] else .tuple #[S [], S [], .bool false]
set_option maxHeartbeats 4000000 in
set_option maxRecDepth 8000 in
theorem rcut_any (c : UInt8) (s : Bs) (w : World) (hs : s.length ≤ 9223372036854775806) : Calls Tryz.prog 80 #[S s, .int .u8 (c.toNat : Int)] w fun e w' => e = .returned (rct c s) ∧ Below w.heap.size w w' := by
  have HR := hide (show rct c s = if (hd c s).length < s.length then .tuple #[S (hd c s), S (tl c s), .bool true] else .tuple #[S [], S [], .bool false] from rfl)
  have HST := hide (fun k h hk => hd_stop c s k h hk)
  have HLE := hide (hd_le c s)
  have HTK := hide (hd_take c s)
  have HTL := hide (fun h => tl_drop c s h)
  generalize rct c s = R at *
  go_enter Tryz.func80, Tryz.ntmps80
  go_wp2
  go_loopw [7] (fun i wr => ∃ k : Nat, k ≤ s.length ∧ i = .int .i64 k ∧ k ≤ (hd c s).length ∧ wr = w) (fun i _ => s.length - (Go.RowKit.intOf i).toNat)
  case atStart => exact ⟨0, by omega, rfl, by omega, rfl⟩
  case round =>
    obtain ⟨k, hk, rfl, hh, rfl⟩ := hrel
    by_cases hlt : k < s.length
    · have hsz : k < (ByteArray.mk s.toArray).size := by simpa [ByteArray.size] using hlt
      have hC : (ByteArray.mk s.toArray)[k]'hsz = s[k] := rfl
      have hklt : (k : Int) < (s.length : Int) := by omega
      by_cases hc : s[k] = c
      · have he := (unhide HST k hlt hh).1 hc
        have hcc : ((s[k].toNat : Nat) : Int) = (c.toNat : Int) := by rw [hc]
        have HX1 : Hid ((ByteArray.mk s.toArray).extract 0 k = ⟨(hd c s).toArray⟩) := hide (by rw [extract_eq, List.drop_zero, Nat.sub_zero, ← he, unhide HTK])
        have HX2 : Hid ((ByteArray.mk s.toArray).extract (k + 1) s.length = ⟨(tl c s).toArray⟩) := hide (by rw [extract_eq, unhide HTL (by omega), he, List.take_of_length_le (by simp)])
        have hF := unhide HR
        rw [if_pos (by omega)] at hF
        have HF := hide hF
        have hk1 : (k : Int) + 1 ≤ (s.length : Int) := by omega
        have hk2 : (k : Int) ≤ (s.length : Int) := by omega
        clear he hF hc HR HST HLE HTK HTL hh
        go_wp2_with fail
        go_quiet (fail)
        have HB := hide (below_dN (Below.refl wr.heap.size wr) nq)
        generalize wr.drewN nq = wv at *
        go_wp2
        go_ret3
        refine ⟨?_, unhide HB⟩
        rw [unhide HF]
        show Ending.returned (.tuple #[.string ((ByteArray.mk s.toArray).extract 0 k), .string ((ByteArray.mk s.toArray).extract (k + 1) s.length), .bool true]) = _
        rw [unhide HX1, unhide HX2]
      · have he : k + 1 ≤ (hd c s).length := by
          rcases Nat.lt_or_eq_of_le hh with q | q
          · exact q
          · exact absurd ((unhide HST k hlt hh).2 q.symm) hc
        have hcc : (((s[k].toNat : Nat) : Int) == (c.toNat : Int)) = false := by
          rw [beq_eq_false_iff_ne]
          intro q
          exact hc (UInt8.toNat_inj.1 (by omega))
        have HE := hide he
        clear he hh hc
        go_wp2
        refine ⟨⟨k + 1, by omega, by go_num, unhide HE, trivial⟩, ?_⟩
        simp [Go.RowKit.intOf]; omega
    · have hF := unhide HR
      rw [if_neg (by have := unhide HLE; omega)] at hF
      have HF := hide hF
      have hklt : ¬ (k : Int) < (s.length : Int) := by omega
      clear hF hh
      go_wp2
      go_ret3
      exact ⟨by rw [unhide HF]; rfl, Below.refl _ _⟩
end Go.Proofs.YthlacailhfhjnaaGreatDoor
namespace Go.Proofs.YthlacailhfhjnaaGreatDoor
open Go.RowKit Go.Lib
/-- A line that begins at a place. -/
def lnv (s : Bs) (at' : Nat) : Value :=
  if 1001 < (hd 10 (s.drop at')).length then .tuple #[S [], .int .i64 0, .bool false, .bool true] else if (hd 10 (s.drop at')).length < (s.drop at').length then .tuple #[S (cutr (hd 10 (s.drop at'))), .int .i64 ((at' + (hd 10 (s.drop at')).length + 1 : Nat) : Int), .bool (ret (hd 10 (s.drop at'))), .bool false] else .tuple #[S [], .int .i64 0, .bool false, .bool false]
theorem ret_take (t : Bs) (k : Nat) (h : k + 1 ≤ t.length) : ret (t.take (k + 1)) = (t[k] == 13) ∧ (ret (t.take (k + 1)) = true → cutr (t.take (k + 1)) = t.take k) := by
  have e : t.take (k + 1) = t.take k ++ [t[k]] := List.take_succ_eq_append_getElem (by omega)
  have h1 : ret (t.take (k + 1)) = (t[k] == 13) := by
    rw [e]
    unfold ret
    rw [List.getLast?_append]
    simp
  refine ⟨h1, fun h2 => ?_⟩
  unfold cutr
  rw [if_pos h2, e, List.dropLast_concat]
theorem cutr_no {e : Bs} (h : ret e = false) : cutr e = e := by
  unfold cutr
  rw [h]
  rfl
set_option maxHeartbeats 4000000 in
set_option maxRecDepth 8000 in
theorem rline_any (s : Bs) (at' : Nat) (w : World) (hs : s.length ≤ 9000000000000000000) (ha : at' ≤ s.length) : Calls Tryz.prog 77 #[S s, .int .i64 (at' : Int)] w fun e w' => e = .returned (lnv s at') ∧ w' = w := by
  obtain ⟨t, ht⟩ : ∃ t, t = s.drop at' := ⟨_, rfl⟩
  have hR : lnv s at' = if 1001 < (hd 10 t).length then .tuple #[S [], .int .i64 0, .bool false, .bool true] else if (hd 10 t).length < t.length then .tuple #[S (cutr (hd 10 t)), .int .i64 ((at' + (hd 10 t).length + 1 : Nat) : Int), .bool (ret (hd 10 t)), .bool false] else .tuple #[S [], .int .i64 0, .bool false, .bool false] := by rw [ht]; rfl
  have hlen : t.length = s.length - at' := by rw [ht, List.length_drop]
  have hget : ∀ k (h : k < t.length) (h2 : at' + k < s.length), s[at' + k] = t[k] := fun k h h2 => by subst ht; simp
  have hex : ∀ j, (ByteArray.mk s.toArray).extract at' (at' + j) = ⟨(t.take j).toArray⟩ := fun j => by rw [extract_eq, ht, Nat.add_sub_cancel_left]
  have HR := hide hR
  have HLE := hide (hd_le 10 t)
  have HST := hide (fun k h hk => hd_stop 10 t k h hk)
  have HTK := hide (hd_take 10 t)
  have HG := hide hget
  have HX := hide hex
  have HL := hide hlen
  generalize lnv s at' = R at *
  clear hR hget hex hlen ht
  go_enter Tryz.func77, Tryz.ntmps77
  go_wp2
  go_loop [8] (fun i => ∃ k : Nat, at' + k ≤ s.length ∧ i = .int .i64 ((at' + k : Nat) : Int) ∧ k ≤ (hd 10 t).length ∧ k ≤ 1002) (fun i => s.length - (Go.RowKit.intOf i).toNat)
  case atStart => exact ⟨0, by omega, by simp, by omega, by omega⟩
  case round =>
    obtain ⟨k, hk, rfl, hh, hk2⟩ := hrel
    obtain ⟨j, hj⟩ : ∃ j, j = at' + k := ⟨_, rfl⟩
    rw [← hj]
    have hl := unhide HL
    by_cases hlt : k < t.length
    · have hjs : j < s.length := by omega
      have hsz : j < (ByteArray.mk s.toArray).size := by simpa [ByteArray.size] using hjs
      have hC : (ByteArray.mk s.toArray)[j]'hsz = t[k] := by
        have := unhide HG k hlt (by omega)
        subst hj
        exact this
      have hklt : (j : Int) < (s.length : Int) := by omega
      by_cases hlong : 1001 < k
      · have i1 : (1001 : Int) < (j : Int) - (at' : Int) := by omega
        have hF := unhide HR
        rw [if_pos (by omega)] at hF
        have HF := hide hF
        clear hF hh hj
        go_wp2
        refine bodyPost_ret (v := .tuple #[S [], .int .i64 0, .bool false, .bool true]) (by simp [results, Tryz.results77, go_sem]) rfl ⟨?_, rfl⟩
        rw [unhide HF]
      · have i1 : ¬ (1001 : Int) < (j : Int) - (at' : Int) := by omega
        by_cases hc : t[k] = 10
        · have he := (unhide HST k hlt hh).1 hc
          have hF := unhide HR
          rw [if_neg (by omega), if_pos (by omega), he, ← hj] at hF
          have hcc : ((t[k].toNat : Nat) : Int) = 10 := by rw [hc]; rfl
          rw [← unhide HTK, he] at hF
          rcases Nat.eq_zero_or_pos k with h0 | h0
          · subst h0
            have hjat : (at' : Int) = (j : Int) := by omega
            have HX1 : Hid ((ByteArray.mk s.toArray).extract at' j = ⟨([] : Bs).toArray⟩) := hide (by rw [hj, unhide HX 0]; rfl)
            have HF := hide hF
            have hjat2 : at' = j := by omega
            subst hjat2
            clear hF hh hj he hc
            go_wp2
            refine bodyPost_ret (v := .tuple #[.string ((ByteArray.mk s.toArray).extract at' at'), .int .i64 ((at' : Int) + 1), .bool false, .bool false]) (by simp [results, Tryz.results77, go_sem]) rfl ⟨?_, rfl⟩
            rw [unhide HX1, unhide HF]
            rfl
          · obtain ⟨k', rfl⟩ : ∃ k', k = k' + 1 := ⟨k - 1, by omega⟩
            have hk'l : k' < t.length := Nat.lt_of_succ_lt hlt
            obtain ⟨r1, r2⟩ := ret_take t k' (by omega)
            have hjat : (at' : Int) < (j : Int) := by omega
            obtain ⟨j', hj'⟩ : ∃ j', j = j' + 1 := ⟨j - 1, by omega⟩
            have hsub : (j : Int) - 1 = (j' : Int) := by omega
            have hsz2 : j' < (ByteArray.mk s.toArray).size := by omega
            have HJ' := hide hj'
            have hC2 : (ByteArray.mk s.toArray)[j']'hsz2 = (t[k']'hk'l) := by
              have := unhide HG k' (by omega) (by omega)
              have e : at' + k' = j' := by omega
              subst e
              exact this
            by_cases h13 : (t[k']'hk'l) = 13
            · have hr : ret (t.take (k' + 1)) = true := by rw [r1, h13]; rfl
              rw [hr, r2 hr] at hF
              have HX1 : Hid ((ByteArray.mk s.toArray).extract at' j' = ⟨(t.take k').toArray⟩) := hide (by rw [show j' = at' + k' by omega, unhide HX k'])
              have h13i : (((t[k']'hk'l).toNat : Nat) : Int) = 13 := by rw [h13]; rfl
              have HF := hide hF
              have hle : (at' : Int) ≤ (j' : Int) := by omega
              have hle2 : (j' : Int) ≤ (s.length : Int) := by omega
              clear hF hh hj hj' he hc r1 r2 hr h13
              go_wp2
              refine bodyPost_ret (v := .tuple #[.string ((ByteArray.mk s.toArray).extract at' j'), .int .i64 ((j : Int) + 1), .bool true, .bool false]) (by simp [results, Tryz.results77, go_sem]) rfl ⟨?_, rfl⟩
              rw [unhide HX1, unhide HF]
              rfl
            · have hr : ret (t.take (k' + 1)) = false := by rw [r1]; simpa using h13
              rw [hr, cutr_no hr] at hF
              have HX1 : Hid ((ByteArray.mk s.toArray).extract at' j = ⟨(t.take (k' + 1)).toArray⟩) := hide (by rw [show j = at' + (k' + 1) by omega, unhide HX (k' + 1)])
              have h13i : ((((t[k']'hk'l).toNat : Nat) : Int) == 13) = false := by
                rw [beq_eq_false_iff_ne]
                intro q
                exact h13 (UInt8.toNat_inj.1 (by show (t[k']'hk'l).toNat = 13; omega))
              have HF := hide hF
              have hle : (at' : Int) ≤ (j : Int) := by omega
              have hle2 : (j : Int) ≤ (s.length : Int) := by omega
              clear hF hh hj hj' he hc r1 r2 hr h13
              go_wp2
              refine bodyPost_ret (v := .tuple #[.string ((ByteArray.mk s.toArray).extract at' j), .int .i64 ((j : Int) + 1), .bool false, .bool false]) (by simp [results, Tryz.results77, go_sem]) rfl ⟨?_, rfl⟩
              rw [unhide HX1, unhide HF]
              rfl
        · have he : k + 1 ≤ (hd 10 t).length := by
            rcases Nat.lt_or_eq_of_le hh with q | q
            · exact q
            · exact absurd ((unhide HST k hlt hh).2 q.symm) hc
          have hcc : (((t[k].toNat : Nat) : Int) == 10) = false := by
            rw [beq_eq_false_iff_ne]
            intro q
            exact hc (UInt8.toNat_inj.1 (by show t[k].toNat = 10; omega))
          have HE := hide (And.intro he hj)
          clear he hh hc hj
          go_wp2
          have hj := (unhide HE).2
          refine ⟨⟨k + 1, by omega, ?_, (unhide HE).1, by omega⟩, ?_⟩
          · congr 1; omega
          · simp [Go.RowKit.intOf]; omega
    · have hF := unhide HR
      have hle := unhide HLE
      have hjl : (j : Int) = (s.length : Int) := by omega
      have hklt : ¬ (j : Int) < (s.length : Int) := by omega
      by_cases hlong : 1001 < k
      · have i1 : (1001 : Int) < (s.length : Int) - (at' : Int) := by omega
        rw [if_pos (by omega)] at hF
        have HF := hide hF
        clear hF hh hj hjl
        go_wp2
        refine bodyPost_ret (v := .tuple #[S [], .int .i64 0, .bool false, .bool true]) (by simp [results, Tryz.results77, go_sem]) rfl ⟨?_, rfl⟩
        rw [unhide HF]
      · have i1 : decide ((1001 : Int) < (s.length : Int) - (at' : Int)) = false := decide_eq_false (by omega)
        rw [if_neg (by omega), if_neg (by omega)] at hF
        have HF := hide hF
        clear hF hh hj hjl
        go_wp2
        refine bodyPost_ret (v := .tuple #[S [], .int .i64 0, .bool false, .bool false]) (by simp [results, Tryz.results77, go_sem]) rfl ⟨?_, rfl⟩
        rw [unhide HF]
end Go.Proofs.YthlacailhfhjnaaGreatDoor
namespace Go.Proofs.YthlacailhfhjnaaGreatDoor
open Go.RowKit Go.Lib
theorem num_eq (s : Bs) : num s = (s.all dgt && !(s == []) && !(decide (1 < s.length) && s.head? == some 48)) := by
  unfold num
  match s with
  | [] => rfl
  | [c] =>
    by_cases h : c = 48
    · subst h; decide
    · have hb : (c == 48) = false := by simpa using h
      simp [hb]
  | c :: d :: l =>
    by_cases h : c = 48
    · subst h
      simp
    · have hb : (c == 48) = false := by simpa using h
      simp [hb]
theorem vl_mono (s t : Bs) (a : Nat) : vl a s ≤ vl a (s ++ t) := by
  unfold vl
  rw [List.foldl_append]
  generalize s.foldl (fun a c => a * 10 + (c.toNat - 48)) a = x
  induction t generalizing x with
  | nil => exact Nat.le_refl _
  | cons c t ih =>
    rw [List.foldl_cons]
    exact Nat.le_trans (by omega) (ih _)
theorem vl_next (s : Bs) (k : Nat) (h : k < s.length) : vl 0 (s.take (k + 1)) = vl 0 (s.take k) * 10 + (s[k].toNat - 48) := by
  rw [List.take_succ_eq_append_getElem h]
  unfold vl
  rw [List.foldl_append]
  rfl
def szv (s : Bs) : Value := if num s = false then .tuple #[.int .i64 0, .int .i64 52] else if 4000 < vl 0 s then .tuple #[.int .i64 0, .int .i64 53] else .tuple #[.int .i64 (vl 0 s : Nat), .int .i64 0]
set_option maxHeartbeats 4000000 in
set_option maxRecDepth 8000 in
theorem rsize_any (s : Bs) (w : World) (hs : s.length ≤ 9223372036854775806) : Calls Tryz.prog 84 #[S s] w fun e w' => e = .returned (szv s) ∧ w' = w := by
  have HW := hide (within_any s 48 57 w hs)
  rw [wth_dgt] at HW
  have HN := hide (num_eq s)
  have HR := hide (show szv s = if num s = false then .tuple #[.int .i64 0, .int .i64 52] else if 4000 < vl 0 s then .tuple #[.int .i64 0, .int .i64 53] else .tuple #[.int .i64 (vl 0 s : Nat), .int .i64 0] from rfl)
  by_cases hd : s.all dgt = true
  · rw [hd] at HW
    cases s with
    | nil =>
      have hF : szv [] = .tuple #[.int .i64 0, .int .i64 52] := rfl
      rw [hF]
      clear HN HR hd hs
      go_enter Tryz.func84, Tryz.ntmps84
      go_wp2_with (refine (unhide HW).mono ?_; rintro e w' ⟨rfl, rfl⟩)
      go_ret2
      exact ⟨rfl, rfl⟩
    | cons c r =>
      generalize szv (c :: r) = R at *
      by_cases hz : c = 48 ∧ r ≠ []
      · obtain ⟨rfl, hr⟩ := hz
        have hn : num (48 :: r) = false := by
          rw [unhide HN]
          cases r with
          | nil => exact absurd rfl hr
          | cons d r => simp
        have hF := unhide HR
        rw [hn, if_pos rfl] at hF
        subst hF
        have hl : (1 : Int) < ((48 :: r : Bs).length : Int) := by
          cases r with
          | nil => exact absurd rfl hr
          | cons d r => simp; omega
        have hsz : 0 < (ByteArray.mk (48 :: r : Bs).toArray).size := by rw [ba_size]; simp
        have hC : (ByteArray.mk (48 :: r : Bs).toArray)[0]'hsz = 48 := rfl
        have h48 : (((48 : UInt8).toNat : Nat) : Int) = 48 := rfl
        clear hr hd HN HR hn
        go_enter Tryz.func84, Tryz.ntmps84
        go_wp2_with (refine (unhide HW).mono ?_; rintro e w' ⟨rfl, rfl⟩)
        go_ret2
        exact ⟨rfl, rfl⟩
      · have hn : num (c :: r) = true := by
          rw [unhide HN, hd]
          cases r with
          | nil => rfl
          | cons d r =>
            have : c ≠ 48 := fun e => hz ⟨e, by simp⟩
            simp [this]
        have hF := unhide HR
        rw [hn] at hF
        simp only [Bool.true_eq_false, if_false] at hF
        have HF := hide hF
        have hcase : (r.length = 0) ∨ (0 < r.length ∧ c.toNat ≠ 48) := by
          cases r with
          | nil => exact .inl rfl
          | cons d r => exact .inr ⟨by simp, fun e => hz ⟨UInt8.toNat_inj.1 e, by simp⟩⟩
        obtain ⟨s, hsE⟩ : ∃ s, s = c :: r := ⟨_, rfl⟩
        have hsl : s.length = r.length + 1 := by rw [hsE]; rfl
        have hsz : 0 < (ByteArray.mk s.toArray).size := by rw [ba_size, hsl]; omega
        have hC : (ByteArray.mk s.toArray)[0]'hsz = c := by subst hsE; rfl
        have hne : (s == []) = false := by rw [hsE]; rfl
        rw [← hsE] at hd hs HW HF ⊢
        clear hF hn HN HR hz
        have hstep : ∀ k (h : k < s.length), 48 ≤ s[k].toNat ∧ s[k].toNat ≤ 57 := fun k h => by
          have := List.all_eq_true.1 hd _ (List.getElem_mem h)
          unfold dgt at this
          simpa using this
        have HSTEP := hide hstep
        clear hd hstep
        have HC := hide hcase
        have HSL := hide hsl
        clear hcase hsl hsE
        have pre : (decide ((1 : Int) < (s.length : Int)) = false) ∨ ((1 : Int) < (s.length : Int) ∧ (((c.toNat : Nat) : Int) == 48) = false) := by
          have := unhide HSL
          rcases unhide HC with h | ⟨h1, h2⟩
          · left; exact decide_eq_false (by omega)
          · right; exact ⟨by omega, by rw [beq_eq_false_iff_ne]; omega⟩
        rcases pre with i1 | ⟨i1, i2⟩
        all_goals
          go_enter Tryz.func84, Tryz.ntmps84
          go_wp2_with (refine (unhide HW).mono ?_; rintro e w' ⟨rfl, rfl⟩)
          go_loop [5, 6] (fun n i => ∃ k : Nat, k ≤ s.length ∧ i = .int .i64 k ∧ n = .int .i64 (vl 0 (s.take k) : Nat) ∧ vl 0 (s.take k) ≤ 4000) (fun _ i => s.length - (Go.RowKit.intOf i).toNat)
          case atStart => exact ⟨0, by omega, rfl, rfl, by simp [vl]⟩
          case round =>
            obtain ⟨k, hk, rfl, rfl, hv⟩ := hrel
            by_cases hlt : k < s.length
            · have hsz2 : k < (ByteArray.mk s.toArray).size := by simpa [ByteArray.size] using hlt
              have hC2 : (ByteArray.mk s.toArray)[k]'hsz2 = s[k] := rfl
              have hklt : (k : Int) < (s.length : Int) := by omega
              have hdg := unhide HSTEP k hlt
              have hnx := vl_next s k hlt
              have hmono : vl 0 (s.take (k + 1)) ≤ vl 0 s := by
                have := vl_mono (s.take (k + 1)) (s.drop (k + 1)) 0
                rw [List.take_append_drop] at this
                exact this
              generalize s[k] = d at *
              generalize vl 0 (s.take k) = N0 at *
              have HNX := hide hnx
              have HMO := hide hmono
              clear hnx hmono
              have e8 : ((d.toNat : Int) - 48) % 256 = (d.toNat : Int) - 48 := Int.emod_eq_of_lt (by omega) (by omega)
              by_cases hgt : 4000 < N0 * 10 + (d.toNat - 48)
              · have j1 : (4000 : Int) < 10 * (N0 : Int) + ((d.toNat : Int) - 48) := by omega
                go_wp2
                go_ret2
                have e1 := unhide HNX
                have e2 := unhide HMO
                refine ⟨?_, rfl⟩
                rw [unhide HF, if_pos (by omega)]
                rfl
              · have j1 : ¬ (4000 : Int) < 10 * (N0 : Int) + ((d.toNat : Int) - 48) := by omega
                go_wp2
                refine ⟨⟨k + 1, by omega, by go_num, ?_, by rw [unhide HNX]; omega⟩, ?_⟩
                · rw [unhide HNX]
                  congr 1
                  omega
                · simp [Go.RowKit.intOf]; omega
            · have e : s.take k = s := List.take_of_length_le (by omega)
              rw [e] at hv ⊢
              have hklt : ¬ (k : Int) < (s.length : Int) := by omega
              have hF := unhide HF
              rw [if_neg (by omega)] at hF
              have HF2 := hide hF
              clear hF
              generalize vl 0 s = NN at *
              go_wp2
              go_ret2
              exact ⟨by rw [unhide HF2]; rfl, rfl⟩
  · have hd' : s.all dgt = false := by simpa using hd
    rw [hd'] at HW
    have hn : num s = false := by rw [unhide HN, hd']; rfl
    have hF := unhide HR
    rw [hn, if_pos rfl] at hF
    have HF := hide hF
    clear hF hn hd hd' HN HR
    generalize szv s = R at *
    go_enter Tryz.func84, Tryz.ntmps84
    go_wp2_with (refine (unhide HW).mono ?_; rintro e w' ⟨rfl, rfl⟩)
    go_ret2
    exact ⟨by rw [unhide HF]; rfl, rfl⟩
end Go.Proofs.YthlacailhfhjnaaGreatDoor
/- The first line of an answer, as the document's own function reads it. -/
namespace Go.Proofs.YthlacailhfhjnaaGreatDoor
open Go.Lib
theorem num_three {x : Bs} (h : num x = true) (h1 : 100 ≤ vl 0 x) (h2 : vl 0 x ≤ 599) : ∃ a b c, x = [a, b, c] ∧ dgt a = true ∧ dgt b = true ∧ dgt c = true := by
  unfold num at h
  rw [Bool.or_eq_true] at h
  rcases h with h | h
  · have : x = [48] := by simpa using h
    subst this
    exact absurd h1 (by decide)
  · simp only [Bool.and_eq_true, Bool.not_eq_true'] at h
    obtain ⟨⟨_, h4⟩, h5⟩ := h
    match x, h1, h2, h4, h5 with
    | [], h1, _, _, _ => exact absurd h1 (by decide)
    | [a], h1, _, _, h5 =>
      have ha : dgt a = true := by simpa using h5
      simp [dgt] at ha
      simp [vl] at h1
      omega
    | [a, b], h1, _, _, h5 =>
      simp at h5
      obtain ⟨ha, hb⟩ := h5
      simp [dgt] at ha hb
      simp [vl] at h1
      omega
    | [a, b, c], _, _, _, h5 =>
      simp at h5
      exact ⟨a, b, c, rfl, h5.1, h5.2.1, h5.2.2⟩
    | a :: b :: c :: d :: r, _, h2, h4, h5 =>
      exfalso
      have hm := vl_mono [a, b, c, d] r 0
      have ha : dgt a = true := by simp at h5; exact h5.1
      have hne : a ≠ 48 := by simpa using h4
      simp [dgt] at ha
      have : a.toNat ≠ 48 := fun e => hne (UInt8.toNat_inj.1 e)
      have e : vl 0 [a, b, c, d] = (((0 * 10 + (a.toNat - 48)) * 10 + (b.toNat - 48)) * 10 + (c.toNat - 48)) * 10 + (d.toNat - 48) := rfl
      rw [e] at hm
      have : vl 0 (a :: b :: c :: d :: r) = vl 0 ([a, b, c, d] ++ r) := rfl
      omega
/-- What the document's function asks of the line. -/
def tlv (s : Bs) : Nat := 100 * ((s.getD 9 0).toNat - 48) + 10 * ((s.getD 10 0).toNat - 48) + ((s.getD 11 0).toNat - 48)
def tlb (s : Bs) : Bool := decide (13 ≤ s.length) && s.take 8 == vers && s.getD 8 0 == 32 && s.getD 12 0 == 32 && ((s.drop 9).take 3).all dgt && (s.drop 13).all shn && decide (100 ≤ tlv s ∧ tlv s ≤ 599)
theorem opA_tlb (s : Bs) : opA s = if tlb s = true then some ⟨[], [], tlv s⟩ else none := by
  by_cases hl : 13 ≤ s.length
  · match s, hl with
    | c0 :: c1 :: c2 :: c3 :: c4 :: c5 :: c6 :: c7 :: c8 :: c9 :: c10 :: c11 :: c12 :: r, _ =>
      by_cases hpre : (vers ++ [32]).isPrefixOf (c0 :: c1 :: c2 :: c3 :: c4 :: c5 :: c6 :: c7 :: c8 :: c9 :: c10 :: c11 :: c12 :: r) = true
      · have hp : [c0, c1, c2, c3, c4, c5, c6, c7] = vers ∧ c8 = 32 := by
          simp [vers] at hpre
          simp [vers]
          obtain ⟨p0, p1, p2, p3, p4, p5, p6, p7, p8⟩ := hpre
          exact ⟨⟨p0.symm, p1.symm, p2.symm, p3.symm, p4.symm, p5.symm, p6.symm, p7.symm⟩, p8.symm⟩
        obtain ⟨hv, rfl⟩ := hp
        have hdr : (c0 :: c1 :: c2 :: c3 :: c4 :: c5 :: c6 :: c7 :: 32 :: c9 :: c10 :: c11 :: c12 :: r).drop 9 = c9 :: c10 :: c11 :: c12 :: r := rfl
        have htl : tlb (c0 :: c1 :: c2 :: c3 :: c4 :: c5 :: c6 :: c7 :: 32 :: c9 :: c10 :: c11 :: c12 :: r) = (c12 == 32 && (dgt c9 && (dgt c10 && dgt c11)) && r.all shn && decide (100 ≤ 100 * (c9.toNat - 48) + 10 * (c10.toNat - 48) + (c11.toNat - 48) ∧ 100 * (c9.toNat - 48) + 10 * (c10.toNat - 48) + (c11.toNat - 48) ≤ 599)) := by
          unfold tlb tlv
          have e : (c0 :: c1 :: c2 :: c3 :: c4 :: c5 :: c6 :: c7 :: 32 :: c9 :: c10 :: c11 :: c12 :: r).take 8 = vers := hv
          rw [e]
          simp
        have htv : tlv (c0 :: c1 :: c2 :: c3 :: c4 :: c5 :: c6 :: c7 :: 32 :: c9 :: c10 :: c11 :: c12 :: r) = 100 * (c9.toNat - 48) + 10 * (c10.toNat - 48) + (c11.toNat - 48) := rfl
        rw [htl, htv]
        unfold opA
        rw [hdr, hpre]
        generalize hT : c9 :: c10 :: c11 :: c12 :: r = T
        by_cases hc : (decide ((hd 32 T).length < T.length) && num (hd 32 T) && (tl 32 T).all shn && decide (100 ≤ vl 0 (hd 32 T) ∧ vl 0 (hd 32 T) ≤ 599)) = true
        · simp only [Bool.and_eq_true, decide_eq_true_eq] at hc
          obtain ⟨⟨⟨g1, g2⟩, g3⟩, g4, g5⟩ := hc
          obtain ⟨a, b, c, e, ha, hb, hcc⟩ := num_three g2 g4 g5
          rcases (hd_split 32 T).2 with ⟨_, q⟩ | ⟨q, _⟩
          · rw [e] at q
            rw [← hT] at q
            simp only [List.cons_append, List.nil_append, List.cons.injEq] at q
            obtain ⟨rfl, rfl, rfl, rfl, hr⟩ := q
            rw [e] at g4 g5
            have ev : vl 0 [c9, c10, c11] = 100 * (c9.toNat - 48) + 10 * (c10.toNat - 48) + (c11.toNat - 48) := by
              show ((0 * 10 + (c9.toNat - 48)) * 10 + (c10.toNat - 48)) * 10 + (c11.toNat - 48) = _
              omega
            rw [ev] at g4 g5
            rw [if_pos (by simp only [Bool.true_and, Bool.and_eq_true, decide_eq_true_eq]; rw [e, ev]; exact ⟨⟨⟨by rw [e] at g1; exact g1, by rw [e] at g2; exact g2⟩, g3⟩, g4, g5⟩), if_pos (by rw [hr, hT]; simp only [Bool.and_eq_true, decide_eq_true_eq]; exact ⟨⟨⟨by simp, ha, hb, hcc⟩, g3⟩, g4, g5⟩), e, ev]
          · omega
        · rw [if_neg (by simpa using hc), if_neg]
          intro h
          simp only [Bool.and_eq_true, decide_eq_true_eq] at h
          obtain ⟨⟨⟨h12, h9, h10, h11⟩, hr⟩, v1, v2⟩ := h
          have h12' : c12 = 32 := by simpa using h12
          subst h12'
          have nd : ∀ x : UInt8, dgt x = true → x ≠ 32 := fun x hx e => by subst e; exact absurd hx (by decide)
          have hh := hd_app 32 [c9, c10, c11] r (by intro x hx; simp at hx; rcases hx with rfl | rfl | rfl <;> exact nd _ (by assumption))
          have eT : T = [c9, c10, c11] ++ 32 :: r := hT.symm
          rw [← eT] at hh
          apply hc
          have ev : vl 0 [c9, c10, c11] = 100 * (c9.toNat - 48) + 10 * (c10.toNat - 48) + (c11.toNat - 48) := by
            show ((0 * 10 + (c9.toNat - 48)) * 10 + (c10.toNat - 48)) * 10 + (c11.toNat - 48) = _
            omega
          have hn9 : c9 ≠ 48 := fun e => by
            subst e
            simp [dgt] at h10 h11
            have : (48 : UInt8).toNat = 48 := rfl
            omega
          simp only [Bool.and_eq_true, decide_eq_true_eq]
          rw [hh.1, hh.2, ev]
          refine ⟨⟨⟨by rw [eT]; simp, ?_⟩, hr⟩, v1, v2⟩
          unfold num
          simp [hn9, h9, h10, h11]
      · have hpre' : (vers ++ [32]).isPrefixOf (c0 :: c1 :: c2 :: c3 :: c4 :: c5 :: c6 :: c7 :: c8 :: c9 :: c10 :: c11 :: c12 :: r) = false := Bool.eq_false_iff.2 hpre
        have h1 : opA (c0 :: c1 :: c2 :: c3 :: c4 :: c5 :: c6 :: c7 :: c8 :: c9 :: c10 :: c11 :: c12 :: r) = none := by
          unfold opA
          rw [hpre']
          rfl
        rw [h1, if_neg]
        intro h
        unfold tlb at h
        simp only [Bool.and_eq_true] at h
        have e1 := h.1.1.1.1.1.2
        have e2 := h.1.1.1.1.2
        apply hpre
        have e3 : [c0, c1, c2, c3, c4, c5, c6, c7] = vers := by simpa using e1
        have e4 : c8 = 32 := by simpa using e2
        subst e4
        simp only [vers, List.cons.injEq, and_true] at e3
        obtain ⟨rfl, rfl, rfl, rfl, rfl, rfl, rfl, rfl⟩ := e3
        rfl
  · rw [if_neg (by unfold tlb; simp [hl])]
    unfold opA
    rw [if_neg]
    intro h
    simp only [Bool.and_eq_true, decide_eq_true_eq] at h
    obtain ⟨⟨⟨⟨g0, g1⟩, g2⟩, _⟩, g4, g5⟩ := h
    obtain ⟨a, b, c, e, _⟩ := num_three g2 g4 g5
    rw [e] at g1
    simp at g1
    omega
end Go.Proofs.YthlacailhfhjnaaGreatDoor
