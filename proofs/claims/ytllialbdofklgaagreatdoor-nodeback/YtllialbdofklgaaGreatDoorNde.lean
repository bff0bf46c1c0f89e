import Derived.Test.YtllialbdofklgaaGreatDoorNdd
namespace Go.Proofs.YtllialbdofklgaaGreatDoor
open Go.RowKit
set_option maxHeartbeats 4000000
set_option maxRecDepth 8000
theorem find_any (n : Nd) (ka va ia : Option Addr) (kc vc ic : Nat) (key : Bs) (w : World) (h : NA n ka va ia w) (hb : NB n) :
    Calls Tryz.prog 25 #[nda n ka va ia kc vc ic, S key] w fun e w' => e = .returned (.tuple #[I (fnd n key).1, .bool (fnd n key).2]) ∧ Below w.heap.size w w' := by
  obtain ⟨lf, ks, vs, is⟩ := n
  have hA := (Below.refl w.heap.size w).alloc (Nat.le_refl _) (.cells #[.bool lf, .slice ka ks.length kc, .slice va vs.length vc, .slice ia is.length ic] 25)
  have hg := heap_alloc_new w (.cells #[.bool lf, .slice ka ks.length kc, .slice va vs.length vc, .slice ia is.length ic] 25)
  have hz := lt_of_row hg
  have hks := (h.below hA).ks
  have H1 := hide (rise_any ka ks.length kc ks _ hks hb.k)
  have hkl := hb.k
  simp only at hkl hks
  have HA := hide hA
  have HK := hide hks
  have HG := hide hg
  clear h hA hks hg hb
  have HF := hide (show fnd ⟨lf, ks, vs, is⟩ key = if up ks then (if lf then (blw ks key, decide (blw ks key < ks.length ∧ ks.getD (blw ks key) [] = key)) else (if decide (blw ks key < ks.length ∧ ks.getD (blw ks key) [] = key) then blw ks key + 1 else blw ks key, false)) else (0, false) from rfl)
  generalize fnd ⟨lf, ks, vs, is⟩ key = F at *
  unfold nda
  simp only
  cases hu : up ks
  · rw [hu] at H1 HF
    clear hu
    go_enter Tryz.func25, Tryz.ntmps25
    go_wp2_with fail
    refine (unhide H1).mono ?_
    rintro e w1 ⟨rfl, q, rfl⟩
    have HB := hide (bel_q (unhide HA) q)
    go_wp2
    go_ret2
    have hf := unhide HF
    simp only [Bool.false_eq_true, if_false] at hf
    subst hf
    exact ⟨rfl, unhide HB⟩
  · rw [hu] at H1 HF
    rw [if_pos rfl] at HF
    clear hu
    have HL := hide (blw_le ks key)
    have HLT := hide (blw_lt ks key)
    have HEN := hide (blw_end ks key)
    have HOF := hide (fun k h hk => @blw_of ks key k h hk)
    generalize blw ks key = K at *
    go_enter Tryz.func25, Tryz.ntmps25
    go_wp2_with fail
    refine (unhide H1).mono ?_
    rintro e w1 ⟨rfl, q, rfl⟩
    have HB := hide (bel_q (unhide HA) q)
    have hk1 : Sts ((w.alloc (.cells #[.bool lf, .slice ka ks.length kc, .slice va vs.length vc, .slice ia is.length ic] 25)).drewN q) ka ks.length ks := (unhide HK).below (bel_q (Below.refl _ _) q)
    have HK1 := hide hk1
    have hd := box4 (unhide HG) (bel_q (Below.refl _ _) q) hz
    have hz1 : w.heap.size < ((w.alloc (.cells #[.bool lf, .slice ka ks.length kc, .slice va vs.length vc, .slice ia is.length ic] 25)).drewN q).heap.size := hz
    clear hz HG HK HA hk1
    generalize (w.alloc (.cells #[.bool lf, .slice ka ks.length kc, .slice va vs.length vc, .slice ia is.length ic] 25)).drewN q = W at *
    obtain ⟨d0, d1, d2, d3⟩ := hd
    go_wp2
    go_loopw [6] (fun i wr => ∃ k : Nat, k ≤ K ∧ i = .int .i64 k ∧ wr = W) (fun i _ => ks.length - (Go.RowKit.intOf i).toNat)
    case atStart => exact ⟨0, by omega, rfl, rfl⟩
    case round =>
      obtain ⟨k, hk, rfl, rfl⟩ := hrel
      have hl := unhide HL
      by_cases h1 : k < ks.length
      · have h1' : decide ((k : Int) < (ks.length : Int)) = true := by rw [decide_eq_true_eq]; omega
        obtain ⟨p, o, rfl, hpl, hc0⟩ := (unhide HK1).at h1
        have HX : Hid (ks.getD k [] < key → k < K) := by
          intro h
          rcases Nat.lt_or_ge k K with q | q
          · exact q
          · obtain rfl : k = K := by omega
            exact absurd h (unhide HEN h1)
        have HY : Hid (¬ ks.getD k [] < key → K = k) := by
          intro h
          rcases Nat.lt_or_ge k K with q | q
          · exact absurd (unhide HLT k q) h
          · omega
        have HG : Hid (ks.getD k [] = ks.getD k []) := rfl
        generalize hx : ks.getD k [] = x at *
        by_cases h2 : x < key
        · have hs : Op.bytesLess x key = true := by rw [less_eq]; simp [h2]
          have h3 := unhide HX h2
          clear HX HY HG h2
          go_wp2
          go_round
          case measure => simp [Go.RowKit.intOf]; omega
          case rel => exact ⟨k + 1, by omega, by simp, by first | trivial | rfl⟩
        · have hs : Op.bytesLess x key = false := by rw [less_eq]; simp [h2]
          have h3 := unhide HY h2
          clear HX HY HG h2 hk hl
          subst h3
          rw [show (decide (K < ks.length ∧ ks.getD K [] = key)) = (x == key) by rw [hx, Bool.eq_iff_iff]; simp [h1]] at HF
          clear HL HLT HEN HOF hx
          generalize hv : (x == key) = v at *
          cases lf
          · cases v
            · go_wp2
              go_ret2
              exact ⟨by rw [unhide HF]; rfl, unhide HB⟩
            · go_wp2
              go_ret2
              exact ⟨by rw [unhide HF]; rfl, unhide HB⟩
          · go_wp2
            go_ret2
            exact ⟨by rw [unhide HF]; rfl, unhide HB⟩
      · have h1' : decide ((k : Int) < (ks.length : Int)) = false := by rw [decide_eq_false_iff_not]; omega
        have h3 : K = k := by omega
        subst h3
        rw [show (decide (K < ks.length ∧ ks.getD K [] = key)) = false by simp [h1]] at HF
        clear HL HLT HEN HOF hl
        cases lf
        · go_wp2
          go_ret2
          exact ⟨by rw [unhide HF]; rfl, unhide HB⟩
        · go_wp2
          go_ret2
          exact ⟨by rw [unhide HF]; rfl, unhide HB⟩
end Go.Proofs.YtllialbdofklgaaGreatDoor
