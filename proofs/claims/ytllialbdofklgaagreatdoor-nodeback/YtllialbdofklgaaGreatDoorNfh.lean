import Derived.Test.YtllialbdofklgaaGreatDoorNde
import Derived.BigQuiet
import Derived.Deep.QuietTactic
namespace Go.Proofs.YtllialbdofklgaaGreatDoor
open Go.RowKit
set_option maxHeartbeats 4000000
set_option maxRecDepth 8000
theorem ext_take (s : Bs) (n : Nat) : (Value.string (ByteArray.extract ⟨s.toArray⟩ 0 n)) = S (s.take n) := by
  congr 1
  ext1
  simp [ByteArray.data_extract]
theorem short_any (s : Bs) (n : Nat) (w : World) :
    Calls Tryz.prog 85 #[S s, I n] w fun e w' => e = .returned (S (s.take n)) ∧ w' = w := by
  by_cases h : n < s.length
  · have h' : (n : Int) < (s.length : Int) := by omega
    go_enter Tryz.func85, Tryz.ntmps85
    go_wp2
    go_ret
    exact ⟨by rw [ext_take]; rfl, rfl⟩
  · have h' : ¬ (n : Int) < (s.length : Int) := by omega
    go_enter Tryz.func85, Tryz.ntmps85
    go_wp2
    go_ret
    exact ⟨by rw [List.take_of_length_le (by omega)]; rfl, rfl⟩
theorem pick_any (c : Int) (n : Nat) (w : World) (hc : -9223372036854775808 ≤ c ∧ c ≤ 9223372036854775807) (hn : 0 < n ∧ n ≤ 4294967296) :
    Calls Tryz.prog 36 #[I c, I n] w fun e w' => ∃ r : Nat, r < n ∧ e = .returned (I r) ∧ w' = w := by
  have hn0 : ((n : Int) == 0) = false := by simp; omega
  have hn1 : ¬ (n : Int) = 0 := by omega
  have hm1 : ¬ (n : Int) = -1 := by omega
  by_cases h : c < 0
  · have h' : decide (c < 0) = true := by simpa using h
    go_enter Tryz.func36, Tryz.ntmps36
    go_wp2
    go_ret
    refine ⟨((-(c + 1)) % (n : Int)).toNat, ?_, ?_, rfl⟩
    · have h1 := Int.emod_nonneg (-(c + 1)) hn1
      have h2 := Int.emod_lt_of_pos (-(c + 1)) (show (0 : Int) < n by omega)
      omega
    · have h1 := Int.emod_nonneg (-(c + 1)) hn1
      refine ret_int ?_
      rw [Int.toNat_of_nonneg h1]
      rw [← Int.neg_tmod, Int.tmod_eq_emod_of_nonneg (by omega)]
  · have h' : decide (c < 0) = false := by simpa using h
    go_enter Tryz.func36, Tryz.ntmps36
    go_wp2
    go_ret
    refine ⟨(c % (n : Int)).toNat, ?_, ?_, rfl⟩
    · have h1 := Int.emod_nonneg c hn1
      have h2 := Int.emod_lt_of_pos c (show (0 : Int) < n by omega)
      omega
    · have h1 := Int.emod_nonneg c hn1
      refine ret_int ?_
      rw [Int.toNat_of_nonneg h1]
      try rw [Int.tmod_eq_emod_of_nonneg (by omega)]
/-- Is the key there? -/
def isat (l : List Bs) (key : Bs) : Bool := decide (blw l key < l.length ∧ l.getD (blw l key) [] = key)
theorem place_any (a : Option Addr) (n cap : Nat) (l : List Bs) (key : Bs) (w : World) (hp : Sts w a n l) (hn : n ≤ 4294967296) :
    Calls Tryz.prog 86 #[.slice a n cap, S key] w fun e w' => e = .returned (.tuple #[I (blw l key), .bool (isat l key)]) ∧ ∃ q, w' = w.drewN q := by
  have hN := hp.1
  subst hN
  have HP := hide hp
  clear hp
  have HF := hide (show isat l key = decide (blw l key < l.length ∧ l.getD (blw l key) [] = key) from rfl)
  generalize isat l key = F at *
  have HL := hide (blw_le l key)
  have HLT := hide (blw_lt l key)
  have HEN := hide (blw_end l key)
  generalize blw l key = K at *
  go_enter Tryz.func86, Tryz.ntmps86
  go_wp2
  go_loopw [6] (fun i wr => ∃ k : Nat, k ≤ K ∧ i = .int .i64 k ∧ wr = w) (fun i _ => l.length - (Go.RowKit.intOf i).toNat)
  case atStart => exact ⟨0, by omega, rfl, rfl⟩
  case round =>
    obtain ⟨k, hk, rfl, rfl⟩ := hrel
    have hl := unhide HL
    by_cases h1 : k < l.length
    · have h1' : decide ((k : Int) < (l.length : Int)) = true := by rw [decide_eq_true_eq]; omega
      obtain ⟨p, o, rfl, hpl, hc0⟩ := (unhide HP).at h1
      have HX : Hid (l.getD k [] < key → k < K) := by
        intro h
        rcases Nat.lt_or_ge k K with q | q
        · exact q
        · obtain rfl : k = K := by omega
          exact absurd h (unhide HEN h1)
      have HY : Hid (¬ l.getD k [] < key → K = k) := by
        intro h
        rcases Nat.lt_or_ge k K with q | q
        · exact absurd (unhide HLT k q) h
        · omega
      generalize hx : l.getD k [] = x at *
      by_cases h2 : x < key
      · have hs : Op.bytesLess x key = true := by rw [less_eq]; simp [h2]
        have h3 := unhide HX h2
        clear HX HY h2
        go_wp2
        go_round
        case measure => simp [Go.RowKit.intOf]; omega
        case rel => exact ⟨k + 1, by omega, by simp, by first | trivial | rfl⟩
      · have hs : Op.bytesLess x key = false := by rw [less_eq]; simp [h2]
        have h3 := unhide HY h2
        clear HX HY h2 hk hl
        subst h3
        have HFF := hide (show F = (x == key) by rw [unhide HF, hx, Bool.eq_iff_iff]; simp [h1])
        clear HL HLT HEN HF hx
        generalize hv : (x == key) = v at *
        go_wp2
        go_quiet (fail)
        go_wp2
        go_ret2
        exact ⟨by rw [unhide HFF]; rfl, _, rfl⟩
    · have h1' : decide ((k : Int) < (l.length : Int)) = false := by rw [decide_eq_false_iff_not]; omega
      have h3 : K = k := by omega
      subst h3
      have HFF := hide (show F = false by rw [unhide HF]; simp [h1])
      clear HL HLT HEN hl HF
      go_wp2
      go_quiet (fail)
      go_wp2
      go_ret2
      exact ⟨by rw [unhide HFF]; rfl, _, rfl⟩
/-- The law's own size. -/
def lsz (n : Nd) : Nat := 4 * n.kids.length + (n.keys.length + tot n.keys) + (n.vals.length + tot n.vals)
theorem lsize_any (n : Nd) (ka va ia : Option Addr) (kc vc ic : Nat) (w : World) (h : NA n ka va ia w) (hb : NB n) :
    Calls Tryz.prog 40 #[nda n ka va ia kc vc ic] w fun e w' => e = .returned (I (lsz n)) ∧ Below w.heap.size w w' := by
  obtain ⟨lf, ks, vs, is⟩ := n
  have hA := (Below.refl w.heap.size w).alloc (Nat.le_refl _) (.cells #[.bool lf, .slice ka ks.length kc, .slice va vs.length vc, .slice ia is.length ic] 25)
  have hg := heap_alloc_new w (.cells #[.bool lf, .slice ka ks.length kc, .slice va vs.length vc, .slice ia is.length ic] 25)
  have hz := lt_of_row hg
  have hn := h.below hA
  obtain ⟨b1, b2, b3, b4, b5⟩ := hb
  have HK := hide hn.ks
  have HV := hide hn.vs
  simp only at b1 b2 b3 b4 b5 HK HV
  have HA := hide hA
  obtain ⟨d0, d1, d2, d3⟩ := box4 hg (Below.refl _ _) hz
  have HTK := hide (fun k => tot_take ks k)
  have HTV := hide (fun k => tot_take vs k)
  have HF := hide (show lsz ⟨lf, ks, vs, is⟩ = 4 * is.length + (ks.length + tot ks) + (vs.length + tot vs) from rfl)
  generalize lsz ⟨lf, ks, vs, is⟩ = F at *
  clear h hA hn hg
  unfold nda
  simp only
  generalize hil : is.length = il at *
  clear hil is
  generalize hWW : w.alloc (.cells #[.bool lf, .slice ka ks.length kc, .slice va vs.length vc, .slice ia il ic] 25) = W at *
  have HWW := hide hWW
  clear hWW
  go_enter Tryz.func40, Tryz.ntmps40
  go_wp2
  go_loopw [3, 4] (fun s i wr => ∃ k : Nat, k ≤ ks.length ∧ i = .int .i64 k ∧ s = .int .i64 (4 * il + (k + tot (ks.take k)) : Nat) ∧ wr = W) (fun _ i _ => ks.length - (Go.RowKit.intOf i).toNat)
  case atStart => exact ⟨0, by omega, rfl, by simp [tot], unhide HWW⟩
  case round =>
    obtain ⟨k, hk, rfl, rfl, rfl⟩ := hrel
    by_cases hlt : k < ks.length
    · obtain ⟨p, o, rfl, hpl, hc0⟩ := (unhide HK).at hlt
      have hlt' : (k : Int) < (ks.length : Int) := by omega
      have h1 := tot_next ks k hlt
      have h2 := unhide HTK (k + 1)
      have HN := hide h1
      generalize ks.getD k [] = x at *
      generalize tot (ks.take k) = T at *
      rw [h1] at h2
      clear h1
      go_wp2
      go_round
      case measure => simp [Go.RowKit.intOf]; omega
      case rel => exact ⟨k + 1, by omega, by simp, by rw [unhide HN]; simp; omega, by first | trivial | rfl⟩
    · have hlt' : ¬ (k : Int) < (ks.length : Int) := by omega
      obtain rfl : k = ks.length := by omega
      rw [List.take_length]
      generalize hA1 : 4 * il + (ks.length + tot ks) = A1 at *
      have HA1 := hide hA1
      have hA1b : A1 ≤ 100000000000 := by omega
      clear hA1
      go_wp2
      go_loopw [3, 5] (fun s i wx => ∃ k : Nat, k ≤ vs.length ∧ i = .int .i64 k ∧ s = .int .i64 (A1 + (k + tot (vs.take k)) : Nat) ∧ wx = wr) (fun _ i _ => vs.length - (Go.RowKit.intOf i).toNat)
      case atStart => exact ⟨0, by omega, rfl, by simp [tot], rfl⟩
      case round =>
        obtain ⟨k, hk, rfl, rfl, rfl⟩ := hrel
        by_cases hlt : k < vs.length
        · obtain ⟨p, o, rfl, hpl, hc0⟩ := (unhide HV).at hlt
          have hlt' : (k : Int) < (vs.length : Int) := by omega
          have h1 := tot_next vs k hlt
          have h2 := unhide HTV (k + 1)
          have HN := hide h1
          generalize vs.getD k [] = x at *
          generalize tot (vs.take k) = T at *
          rw [h1] at h2
          clear h1
          go_wp2
          go_round
          case measure => simp [Go.RowKit.intOf]; omega
          case rel => exact ⟨k + 1, by omega, by simp, by rw [unhide HN]; simp; omega, by first | trivial | rfl⟩
        · have hlt' : ¬ (k : Int) < (vs.length : Int) := by omega
          go_wp2
          go_ret
          exact ⟨ret_int (by rw [List.take_of_length_le (by omega), unhide HF]; have := unhide HA1; omega), unhide HA⟩
end Go.Proofs.YtllialbdofklgaaGreatDoor
