import Derived.Test.YtmjaobddgaglhaaGreatDoorTka
import Derived.Test.YtmjaobddgaglhaaGreatDoorProg
import Derived.WalkKit
import Derived.LaidEql
import Derived.Stop.Asserts
import Derived.RowKitTokens
import Derived.Test.YtmjaobddgaglhaaGreatDoorZdsa
import Derived.Deep.RegionLaw
import Derived.Maps.AppendAt
import Derived.Lib.AppendStr
import Derived.BigQuiet
import Derived.Deep.QuietTactic
import Derived.Test.YtmjaobddgaglhaaGreatDoorFace
namespace Go.Proofs.YtmjaobddgaglhaaGreatDoor
open Go.RowKit Go.Lib Sha
set_option maxHeartbeats 4000000
set_option maxRecDepth 8000
theorem prefixes_any (k : Int) (hk : isK k) (w : World) : Calls Tryz.prog 90 #[I k] w fun e w' => e = .returned (.tuple #[S (pre k), S (pre (3 - k))]) ∧ w' = w := by
  rcases hk with rfl | rfl
  · go_enter Tryz.func90, Tryz.ntmps90
    go_wp2
    go_ret2
    exact ⟨rfl, rfl⟩
  · go_enter Tryz.func90, Tryz.ntmps90
    go_wp2
    go_ret2
    exact ⟨rfl, rfl⟩
theorem named_any (id : Nat) (s : Bs) (w : World) (hid : id ≤ 4611686018427387904) (hs : s.length ≤ 1000000) :
    Calls Tryz.prog 91 #[I id, S s] w fun e w' => e = .returned (S (nmd id s)) ∧ Below w.heap.size w w' := by
  go_enter Tryz.func91, Tryz.ntmps91
  go_wp2_with fail
  refine (Wt.new w).mono ?_
  rintro e w1 ⟨rfl, h1⟩
  have H1 := hide (h1.num 8 (id : Int) (by omega) (by omega) (by omega) (by omega) (by omega) (by simp))
  clear h1
  generalize w.heap.size = g at *
  go_wp2_with fail
  refine (unhide H1).mono ?_
  rintro e w2 ⟨rfl, h2⟩
  rw [Int.toNat_natCast, List.nil_append] at h2
  have H2 := hide (h2.raw s (by rw [be_len]; omega))
  clear h2 H1
  go_wp2_with fail
  refine (unhide H2).mono ?_
  rintro e w3 ⟨rfl, h3⟩
  have H3 := hide h3.done
  clear h3 H2
  go_wp2_with fail
  refine (unhide H3).mono ?_
  rintro e w4 ⟨rfl, h4⟩
  have H4 := hide h4
  clear h4 H3
  go_wp2
  go_ret
  exact ⟨rfl, unhide H4⟩
theorem check_any (p b : Bs) (w : World) (hl : p.length + b.length ≤ 1000000) :
    Calls Tryz.prog 95 #[S p, S b] w fun e w' => e = .returned (I ((crc (p ++ b)).toNat : Int)) ∧ w' = w := by
  have hcat : p.length + b.length ≤ 9223372036854775807 := by omega
  go_enter Tryz.func95, Tryz.ntmps95
  go_wp2_with fail
  rw [ba_app]
  refine (crc_any (p ++ b) w (by rw [List.length_append]; omega)).mono ?_
  rintro e w1 ⟨rfl, rfl⟩
  have hu0 := u_lo (crc (p ++ b))
  have hu1 := u_hi (crc (p ++ b))
  have HU := hide (show u (crc (p ++ b)) = ((crc (p ++ b)).toNat : Int) from rfl)
  generalize u (crc (p ++ b)) = z at *
  go_wp2
  go_ret
  exact ⟨by rw [← unhide HU]; rfl, rfl⟩
theorem text_anyK (k : Int) (hk : isK k) (id : Nat) (s : Bs) (w : World) (hid : id ≤ 4611686018427387904) (hs : s.length = 24) :
    Calls Tryz.prog 73 #[I k, I id, S s] w fun e w' => e = .returned (S (tkn k id s)) ∧ Below w.heap.size w w' := by
  have hn := nmd_len id s hs
  have hp := pre_len k
  have HC := hide (check_any (pre k) (nmd id s) · (by omega))
  have hc4 := (crc (pre k ++ nmd id s)).toNat_lt
  have HD : Hid (tkn k id s = pre k ++ enc names false (nmd id s ++ be 4 (crc (pre k ++ nmd id s)).toNat)) := hide rfl
  have hel : (enc names false (nmd id s ++ be 4 (crc (pre k ++ nmd id s)).toNat)).length = 48 := by rw [enc6_len, List.length_append, hn, be_len]
  have hbl : (nmd id s ++ be 4 (crc (pre k ++ nmd id s)).toNat).length = 36 := by rw [List.length_append, hn, be_len]
  have HP := hide (prefixes_any k hk w)
  generalize tkn k id s = T at *
  go_enter Tryz.func73, Tryz.ntmps73
  go_wp2_with fail
  refine (unhide HP).mono ?_
  rintro e w0 ⟨rfl, rfl⟩
  generalize pre k = p at *
  generalize pre (3 - k) = p' at *
  go_wp2_with fail
  refine (named_any id s w0 hid (by omega)).mono ?_
  rintro e w1 ⟨rfl, hb1⟩
  have HB1 := hide hb1
  generalize nmd id s = n at *
  generalize (crc (p ++ n)).toNat = c at *
  clear hb1
  go_wp2_with fail
  refine (Wt.new w1).mono ?_
  rintro e w2 ⟨rfl, h2⟩
  have H2 := hide (h2.raw n (by simp; omega))
  generalize hg : w1.heap.size = g at *
  clear h2
  go_wp2_with fail
  refine (unhide H2).mono ?_
  rintro e w3 ⟨rfl, h3⟩
  rw [List.nil_append] at h3
  have H3 := hide (h3.num 4 (c : Int) (by omega) (by omega) (by omega) (by omega) (by omega) (by omega))
  clear h3 H2
  go_wp2_with fail
  refine ((unhide HC) w3).mono ?_
  rintro e w4 ⟨rfl, rfl⟩
  go_wp2_with fail
  refine (unhide H3).mono ?_
  rintro e w5 ⟨rfl, h5⟩
  rw [Int.toNat_natCast] at h5
  have H5 := hide h5.done
  clear h5 H3
  go_wp2_with fail
  refine (unhide H5).mono ?_
  rintro e w6 ⟨rfl, hb6⟩
  have HB6 := hide hb6
  clear hb6
  generalize n ++ be 4 c = B at *
  go_wp2_with fail
  refine (base64_any B w6 (by omega)).mono ?_
  rintro e w7 ⟨rfl, hb7⟩
  have HB7 := hide hb7
  clear hb7
  generalize enc names false B = E at *
  have hcat : p.length + E.length ≤ 9223372036854775807 := by omega
  go_wp2
  go_ret
  refine ⟨?_, ?_⟩
  · rw [unhide HD]
    show Ending.returned (.string ((⟨p.toArray⟩ : ByteArray) ++ ⟨E.toArray⟩)) = _
    rw [ba_app]
  · have q1 := unhide HB1
    have q6 := unhide HB6
    have q7 := unhide HB7
    subst hg
    exact (q1.trans (q6.mono q1.size)).trans (q7.mono (Nat.le_trans q1.size q6.size))
theorem isKind_yes (k : Int) (hk : isK k) (w : World) : Calls Tryz.prog 71 #[I k] w fun e w' => e = .returned (.bool true) ∧ w' = w := by
  rcases hk with rfl | rfl
  · go_enter Tryz.func71, Tryz.ntmps71
    go_wp2
    go_ret
    exact ⟨rfl, rfl⟩
  · go_enter Tryz.func71, Tryz.ntmps71
    go_wp2
    go_ret
    exact ⟨rfl, rfl⟩
def isI (n : Int) : Bool := decide (1 ≤ n ∧ n ≤ 4611686018427387904)
theorem isID_anyK (n : Int) (w : World) : Calls Tryz.prog 72 #[I n] w fun e w' => e = .returned (.bool (isI n)) ∧ w' = w := by
  by_cases h1 : 1 ≤ n
  · by_cases h2 : n ≤ 4611686018427387904
    · have HI := hide (show isI n = true by simp [isI, h1, h2])
      go_enter Tryz.func72, Tryz.ntmps72
      go_wp2
      go_ret
      exact ⟨by rw [unhide HI]; rfl, rfl⟩
    · have HI := hide (show isI n = false by simp [isI, h2])
      go_enter Tryz.func72, Tryz.ntmps72
      go_wp2
      go_ret
      exact ⟨by rw [unhide HI]; rfl, rfl⟩
  · have HI := hide (show isI n = false by simp [isI, h1])
    go_enter Tryz.func72, Tryz.ntmps72
    go_wp2
    go_ret
    exact ⟨by rw [unhide HI]; rfl, rfl⟩
/-- What Mint answers. -/
def mnt (k id : Int) (s : Bs) : Bs × Int := if (k = 1 ∨ k = 2) ∧ (1 ≤ id ∧ id ≤ 4611686018427387904) ∧ s.length = 24 then (tkn k id.toNat s, 0) else ([], 1)
theorem mint_any (k id : Int) (s : Bs) (w : World) :
    Calls Tryz.prog 56 #[I k, I id, S s] w fun e w' => e = .returned (.tuple #[S (mnt k id s).1, I (mnt k id s).2]) ∧ Below w.heap.size w w' := by
  by_cases hk : k = 1 ∨ k = 2
  · by_cases h1 : 1 ≤ id
    · by_cases h2 : id ≤ 4611686018427387904
      · by_cases h3 : s.length = 24
        · have e : mnt k id s = (tkn k id.toNat s, 0) := by unfold mnt; rw [if_pos ⟨hk, ⟨h1, h2⟩, h3⟩]
          rw [e]
          obtain ⟨n, rfl⟩ : ∃ n : Nat, id = n := ⟨id.toNat, by omega⟩
          rw [Int.toNat_natCast]
          have HT := hide (text_anyK k hk n s w (by omega) h3)
          have h3i : (s.length : Int) = 24 := by omega
          generalize tkn k n s = T at *
          have HK := hide (isKind_yes k hk)
          have HI := hide (isID_anyK (n : Int))
          rw [show isI (n : Int) = true by simp [isI, h1, h2]] at HI
          clear hk
          go_enter Tryz.func56, Tryz.ntmps56
          go_wp2_with (first | (go_at_call 71; refine (unhide HK _).mono ?_; rintro e w' ⟨rfl, rfl⟩) | (go_at_call 72; refine (unhide HI _).mono ?_; rintro e w' ⟨rfl, rfl⟩) | (go_at_call 73; refine (unhide HT).mono ?_; rintro e w1 ⟨rfl, hb⟩))
          go_ret2
          exact ⟨rfl, hb⟩
        · have e : mnt k id s = ([], 1) := by unfold mnt; rw [if_neg (fun q => h3 q.2.2)]
          rw [e]
          have h3i : ¬ (s.length : Int) = 24 := by omega
          rcases hk with rfl | rfl
          · go_enter Tryz.func56, Tryz.ntmps56
            go_wp2
            go_ret2
            exact ⟨rfl, Below.refl _ _⟩
          · go_enter Tryz.func56, Tryz.ntmps56
            go_wp2
            go_ret2
            exact ⟨rfl, Below.refl _ _⟩
      · have e : mnt k id s = ([], 1) := by unfold mnt; rw [if_neg (fun q => h2 q.2.1.2)]
        rw [e]
        rcases hk with rfl | rfl
        · go_enter Tryz.func56, Tryz.ntmps56
          go_wp2
          go_ret2
          exact ⟨rfl, Below.refl _ _⟩
        · go_enter Tryz.func56, Tryz.ntmps56
          go_wp2
          go_ret2
          exact ⟨rfl, Below.refl _ _⟩
    · have e : mnt k id s = ([], 1) := by unfold mnt; rw [if_neg (fun q => h1 q.2.1.1)]
      rw [e]
      rcases hk with rfl | rfl
      · go_enter Tryz.func56, Tryz.ntmps56
        go_wp2
        go_ret2
        exact ⟨rfl, Below.refl _ _⟩
      · go_enter Tryz.func56, Tryz.ntmps56
        go_wp2
        go_ret2
        exact ⟨rfl, Below.refl _ _⟩
  · have e : mnt k id s = ([], 1) := by unfold mnt; rw [if_neg (fun q => hk q.1)]
    rw [e]
    have hk1 : ¬ k = 1 := fun q => hk (.inl q)
    have hk2 : ¬ k = 2 := fun q => hk (.inr q)
    clear hk
    go_enter Tryz.func56, Tryz.ntmps56
    go_wp2
    go_ret2
    exact ⟨rfl, Below.refl _ _⟩
end Go.Proofs.YtmjaobddgaglhaaGreatDoor
