import Derived.Test.YtllialbdofklgaaGreatDoorNea
namespace Go.Proofs.YtllialbdofklgaaGreatDoor
open Go.RowKit
set_option maxHeartbeats 8000000
set_option maxRecDepth 8000
theorem eq_k {l : List Bs} {key : Bs} (k : Nat) (hk : k < l.length) (h : up l = true) (he : l.getD (blw l key) [] = key) (h1 : blw l key < k) : key < l.getD k [] := by
  have q := List.pairwise_iff_getElem.1 ((up_iff l).1 h) (blw l key) k (by omega) hk h1
  rw [List.getD_eq_getElem?_getD, List.getElem?_eq_getElem (by omega)] at he
  rw [List.getD_eq_getElem?_getD, List.getElem?_eq_getElem hk]
  have e : l[blw l key] = key := he
  rw [e] at q
  exact q
theorem refFind_any (n : Nd) (ka va ia : Option Addr) (kc vc ic : Nat) (key : Bs) (w : World) (h : NA n ka va ia w) (hb : NB n) :
    Calls Tryz.prog 26 #[nda n ka va ia kc vc ic, S key] w fun e w' => e = .returned (.tuple #[I (fnd n key).1, .bool (fnd n key).2]) ∧ Below w.heap.size w w' := by
  obtain ⟨lf, ks, vs, is⟩ := n
  have hA := (Below.refl w.heap.size w).alloc (Nat.le_refl _) (.cells #[.bool lf, .slice ka ks.length kc, .slice va vs.length vc, .slice ia is.length ic] 25)
  have hg := heap_alloc_new w (.cells #[.bool lf, .slice ka ks.length kc, .slice va vs.length vc, .slice ia is.length ic] 25)
  have hz := lt_of_row hg
  have hks := (h.below hA).ks
  have H1 := hide (refRises_any ka ks.length kc ks _ hks hb.k)
  have hkl := hb.k
  simp only at hkl hks
  have HA := hide hA
  have HK := hide hks
  have HG := hide hg
  clear h hA hks hg hb
  have HF := hide (show fnd ⟨lf, ks, vs, is⟩ key = if up ks then (if lf then (blw ks key, decide (blw ks key < ks.length ∧ ks.getD (blw ks key) [] = key)) else (if decide (blw ks key < ks.length ∧ ks.getD (blw ks key) [] = key) then blw ks key + 1 else blw ks key, false)) else (0, false) from rfl)
  generalize fnd ⟨lf, ks, vs, is⟩ key = F at *
  unfold nda
  simp only
  cases hu : up ks
  · rw [hu] at H1 HF
    clear hu
    go_enter Tryz.func26, Tryz.ntmps26
    go_wp2_with fail
    refine (unhide H1).mono ?_
    rintro e w1 ⟨rfl, q, rfl⟩
    have HB := hide (bel_q (unhide HA) q)
    go_wp2
    go_ret2
    have hf := unhide HF
    simp only [Bool.false_eq_true, if_false] at hf
    subst hf
    exact ⟨rfl, unhide HB⟩
  · have HEQ := hide (fun k hk => @eq_k ks key k hk hu)
    rw [hu] at H1 HF
    rw [if_pos rfl] at HF
    clear hu
    have HL := hide (blw_le ks key)
    have HLT := hide (blw_lt ks key)
    have HEN := hide (blw_end ks key)
    generalize blw ks key = K at *
    go_enter Tryz.func26, Tryz.ntmps26
    go_wp2_with fail
    refine (unhide H1).mono ?_
    rintro e w1 ⟨rfl, q, rfl⟩
    have HB := hide (bel_q (unhide HA) q)
    have hk1 : Sts ((w.alloc (.cells #[.bool lf, .slice ka ks.length kc, .slice va vs.length vc, .slice ia is.length ic] 25)).drewN q) ka ks.length ks := (unhide HK).below (bel_q (Below.refl _ _) q)
    have HK1 := hide hk1
    have hd := box4 (unhide HG) (bel_q (Below.refl _ _) q) hz
    have hz1 : w.heap.size < ((w.alloc (.cells #[.bool lf, .slice ka ks.length kc, .slice va vs.length vc, .slice ia is.length ic] 25)).drewN q).heap.size := hz
    clear hz HG HK HA hk1
    generalize (w.alloc (.cells #[.bool lf, .slice ka ks.length kc, .slice va vs.length vc, .slice ia is.length ic] 25)).drewN q = W at *
    obtain ⟨d0, d1, d2, d3⟩ := hd
    cases lf
    · -- inner
      simp only [Bool.false_eq_true, if_false] at HF
      go_wp2
      go_loopw [7] (fun i wr => ∃ k : Nat, k ≤ F.1 ∧ i = .int .i64 k ∧ wr = W) (fun i _ => ks.length - (Go.RowKit.intOf i).toNat)
      case atStart => exact ⟨0, by omega, rfl, rfl⟩
      case round =>
        obtain ⟨k, hk, rfl, rfl⟩ := hrel
        have hf := unhide HF
        have hl := unhide HL
        have hfl : F.1 ≤ ks.length := by
          rw [hf]
          simp only
          split
          · rename_i e
            rw [decide_eq_true_eq] at e
            omega
          · exact hl
        have hf2 : F.2 = false := by rw [hf]
        by_cases h1 : k < ks.length
        · have h1' : decide ((k : Int) < (ks.length : Int)) = true := by rw [decide_eq_true_eq]; omega
          obtain ⟨p, o, rfl, hpl, hc0⟩ := (unhide HK1).at h1
          by_cases h2 : k < F.1
          · -- it goes on
            have hx : (Op.bytesLess (ks.getD k []) key || (ks.getD k [] == key)) = true := by
              rcases Nat.lt_or_ge k K with q | q
              · rw [less_eq, decide_eq_true (unhide HLT k q)]; rfl
              · rw [hf] at h2
                simp only at h2
                split at h2
                · rename_i e
                  rw [decide_eq_true_eq] at e
                  obtain rfl : k = K := by omega
                  rw [e.2]; simp
                · omega
            generalize ks.getD k [] = x at *
            clear hf hfl hf2
            cases hs : Op.bytesLess x key
            · have he : (x == key) = true := by rw [hs] at hx; simpa using hx
              clear hx
              go_wp2
              go_round
              case measure => simp [Go.RowKit.intOf]; omega
              case rel => exact ⟨k + 1, by omega, by simp, by first | trivial | rfl⟩
            · clear hx
              go_wp2
              go_round
              case measure => simp [Go.RowKit.intOf]; omega
              case rel => exact ⟨k + 1, by omega, by simp, by first | trivial | rfl⟩
          · have hkF : k = F.1 := by omega
            have hx : Op.bytesLess (ks.getD k []) key = false ∧ (ks.getD k [] == key) = false := by
              rw [hf] at hkF
              simp only at hkF
              split at hkF
              · rename_i e
                rw [decide_eq_true_eq] at e
                have q := unhide HEQ k h1 e.2 (by omega)
                exact ⟨by rw [less_eq]; exact decide_eq_false (fun r => lt_irrefl' _ (lt_trans' q r)), by rw [beq_eq_false_iff_ne]; intro r; rw [r] at q; exact lt_irrefl' _ q⟩
              · rename_i e
                subst hkF
                exact ⟨by rw [less_eq]; exact decide_eq_false (unhide HEN h1), by rw [beq_eq_false_iff_ne]; intro r; exact e (decide_eq_true ⟨h1, r⟩)⟩
            generalize ks.getD k [] = x at *
            obtain ⟨hs, he⟩ := hx
            have HKF := hide hkF
            have HF2 := hide hf2
            clear hf hfl hf2 hkF h2 hk
            go_wp2
            go_quiet (fail)
            go_wp2
            go_ret2
            exact ⟨by rw [← unhide HKF, unhide HF2]; rfl, bel_q (unhide HB) _⟩
        · have h1' : decide ((k : Int) < (ks.length : Int)) = false := by rw [decide_eq_false_iff_not]; omega
          have HKF := hide (show k = F.1 by omega)
          have HF2 := hide hf2
          clear hf hfl hf2 hk
          go_wp2
          go_quiet (fail)
          go_wp2
          go_ret2
          exact ⟨by rw [← unhide HKF, unhide HF2]; rfl, bel_q (unhide HB) _⟩
    · -- a leaf
      simp only [if_true] at HF
      go_wp2
      go_loopw [7] (fun i wr => ∃ k : Nat, k ≤ K ∧ i = .int .i64 k ∧ wr = W) (fun i _ => ks.length - (Go.RowKit.intOf i).toNat)
      case atStart => exact ⟨0, by omega, rfl, rfl⟩
      case round =>
        obtain ⟨k, hk, rfl, rfl⟩ := hrel
        have hl := unhide HL
        by_cases h1 : k < ks.length
        · have h1' : decide ((k : Int) < (ks.length : Int)) = true := by rw [decide_eq_true_eq]; omega
          obtain ⟨p, o, rfl, hpl, hc0⟩ := (unhide HK1).at h1
          by_cases h2 : k < K
          · have hs : Op.bytesLess (ks.getD k []) key = true := by rw [less_eq]; exact decide_eq_true (unhide HLT k h2)
            generalize ks.getD k [] = x at *
            go_wp2
            go_round
            case measure => simp [Go.RowKit.intOf]; omega
            case rel => exact ⟨k + 1, by omega, by simp, by first | trivial | rfl⟩
          · obtain rfl : k = K := by omega
            have hs : Op.bytesLess (ks.getD k []) key = false := by rw [less_eq]; exact decide_eq_false (unhide HEN h1)
            rw [show decide (k < ks.length ∧ ks.getD k [] = key) = (ks.getD k [] == key) by rw [Bool.eq_iff_iff]; simp [h1]] at HF
            generalize ks.getD k [] = x at *
            generalize hv : (x == key) = v at *
            cases v
            · go_wp2
              go_quiet (fail)
              go_wp2
              go_ret2
              exact ⟨by rw [unhide HF]; rfl, bel_q (unhide HB) _⟩
            · go_wp2
              go_quiet (fail)
              go_wp2
              go_ret2
              exact ⟨by rw [unhide HF]; rfl, bel_q (unhide HB) _⟩
        · have h1' : decide ((k : Int) < (ks.length : Int)) = false := by rw [decide_eq_false_iff_not]; omega
          obtain rfl : k = K := by omega
          rw [show decide (k < ks.length ∧ ks.getD k [] = key) = false by simp [h1]] at HF
          go_wp2
          go_quiet (fail)
          go_wp2
          go_ret2
          exact ⟨by rw [unhide HF]; rfl, bel_q (unhide HB) _⟩
end Go.Proofs.YtllialbdofklgaaGreatDoor
