import Derived.Test.YtbmcaejbfjpmiaaDoorSam
namespace Go.Proofs.YtbmcaejbfjpmiaaDoor
open Go.RowKit Go.Lib
theorem below_q {w wr : World} {B : Nat} (h : Below B w wr) (q : Nat) : Below B w (wr.drewN q) := h.trans ⟨rfl, rfl, rfl, Nat.le_refl _, fun _ _ => rfl⟩
set_option maxHeartbeats 4000000 in
set_option maxRecDepth 8000 in
theorem weighs_any (a : Option Addr) (n cap : Nat) (fs : List Fl) (w : World) (hp : Fls w a n fs) (hn : n ≤ 9223372036854775806) (hps : ∀ j, (fs.getD j f0).1.length ≤ 9223372036854775806 ∧ (fs.getD j f0).2.length ≤ 9223372036854775806) :
    Calls Tryd.prog 18 #[.slice a n cap] w fun e w' => ∃ r : Nat, e = .returned (.int .i64 r) ∧ r ≤ 4294967294 ∧ (r ≤ 2147483647 → r = siz fs) ∧ Below w.heap.size w w' := by
  have HN := hide hp.1
  have HP := hide hp
  have HA := hide (adds_any 0 n w (by omega) (by omega))
  have hA0 := addN_bd 0 n
  have hA1 := @addN_le 0 n
  rw [show ((0 : Nat) : Int) = 0 from rfl] at HA
  generalize addN 0 n = A at *
  clear hp
  go_enter Tryd.func18, Tryd.ntmps18
  go_wp2_with fail
  refine (unhide HA).mono ?_
  rintro e w' ⟨rfl, rfl⟩
  clear HA
  go_wp2
  go_loopw [3, 4] (fun c i wr => ∃ (k r : Nat), k ≤ n ∧ i = .int .i64 k ∧ c = .int .i64 r ∧ r ≤ 4294967294 ∧ (r ≤ 2147483647 → r + k = n + siz (fs.take k)) ∧ Below w'.heap.size w' wr) (fun _ i _ => n - (Go.RowKit.intOf i).toNat)
  case atStart => exact ⟨0, A, by omega, rfl, rfl, hA0, fun h => by have := (hA1 h).2; simp [siz]; omega, Below.refl _ _⟩
  case round =>
    obtain ⟨k, r, hk, rfl, rfl, hr0, hr, hbr⟩ := hrel
    clear hA0 hA1
    by_cases hlt : k < n
    · by_cases hm : r ≤ 2147483647
      · obtain ⟨p, o, rfl, _, hc0, hc1⟩ := ((unhide HP).below hbr).at hlt
        have hsa := hide (siz_at fs k (by have := unhide HN; omega))
        have hX := hps k
        have hr' := hide (hr hm)
        generalize fs.getD k f0 = F at *
        obtain ⟨fn, fv⟩ := F
        simp only at hc0 hc1 hX
        have A1 := hide (fun W => adds_any r fn.length W (by omega) (by omega))
        have hb1 := addN_bd r fn.length
        have hl1 := hide (@addN_le r fn.length)
        have A2 := hide (fun W => adds_any (addN r fn.length) fv.length W (by omega) (by omega))
        have hb2 := addN_bd (addN r fn.length) fv.length
        have hl2 := hide (@addN_le (addN r fn.length) fv.length)
        generalize addN (addN r fn.length) fv.length = G at *
        generalize addN r fn.length = D at *
        have hlt' : (k : Int) < (n : Int) := by omega
        have hm' : (r : Int) ≤ 2147483647 := by omega
        clear hr
        go_wp2_with fail
        have B1 := hide (fun m : Nat => Calls.mono (unhide A1 (wr.drewN m)) (fun e w'' h => (⟨h.1, m, h.2⟩ : e = Ending.returned (Value.int IntKind.i64 (D : Int)) ∧ ∃ n, w'' = wr.drewN n)))
        have B2 := hide (fun m : Nat => Calls.mono (unhide A2 (wr.drewN m)) (fun e w'' h => (⟨h.1, m, h.2⟩ : e = Ending.returned (Value.int IntKind.i64 (G : Int)) ∧ ∃ n, w'' = wr.drewN n)))
        clear A1 A2
        go_quiet ((go_at_call 8; with_reducible first | exact unhide B1 _ | exact unhide B2 _))
        have hs := below_q hbr nq
        generalize wr.drewN nq = wv at *
        go_wp2
        go_roundw
        case rel =>
          refine ⟨k + 1, G, by omega, by go_num, rfl, hb2, fun h => ?_, hs⟩
          have h1 := unhide hl2 h
          have h2 := unhide hl1 (by omega)
          rw [unhide hsa]
          have := unhide hr'
          omega
        case measure => simp [Go.RowKit.intOf]; omega
      · have hm' : ¬ (r : Int) ≤ 2147483647 := by omega
        have hlt' : (k : Int) < (n : Int) := by omega
        go_wp2
        go_ret
        exact ⟨r, rfl, hr0, fun h => by omega, hbr⟩
    · have hd : decide (k < n) = false := by simp; omega
      have HR := hide hr
      clear hr
      go_wp2
      go_ret
      refine ⟨r, rfl, hr0, fun h => ?_, hbr⟩
      have h1 := unhide HR h
      rw [List.take_of_length_le (by have := unhide HN; omega)] at h1
      omega
end Go.Proofs.YtbmcaejbfjpmiaaDoor
