import Derived.Test.YtknlafgaagimjaaDoorRfa
import Derived.Deep.QuietTactic
import Derived.BigQuiet
namespace Go.Proofs.YtknlafgaagimjaaDoor
open Go.RowKit Go.Lib
def Lnt (l : List Bs) : Prop := ∀ j, (l.getD j []).length ≤ 9223372036854775806
theorem bel_q {B : Nat} {w wr : World} (h : Below B w wr) (q : Nat) : Below B w (wr.drewN q) := h.trans ⟨rfl, rfl, rfl, Nat.le_refl _, fun _ _ => rfl⟩
set_option maxHeartbeats 8000000 in
set_option maxRecDepth 8000 in
theorem rises_any (a : Option Addr) (n cap : Nat) (l : List Bs) (w : World) (hp : Sts w a n l) (hn : n ≤ 140737488355000) (hL : Lnt l) :
    Calls Tryd.prog 51 #[.slice a n cap] w fun e w' => e = .returned (.bool (okl l)) ∧ Below w.heap.size w w' := by
  have HP := hide hp
  have HN := hide hp.1
  have HL := hide hL
  clear hp hL
  go_enter Tryd.func51, Tryd.ntmps51
  go_wp2
  go_loopw [3] (fun i wr => ∃ k : Nat, k ≤ n ∧ i = .int .i64 k ∧ okl (l.take k) = true ∧ Below w.heap.size w wr) (fun i _ => n - (Go.RowKit.intOf i).toNat)
  case atStart => exact ⟨0, by omega, rfl, rfl, Below.refl _ _⟩
  case round =>
    obtain ⟨k, hk, rfl, hok, hbr⟩ := hrel
    by_cases hlt : k < n
    · obtain ⟨p, o, rfl, hpl, hc0⟩ := ((unhide HP).below hbr).at hlt
      have hkl : k < l.length := by have := unhide HN; omega
      have HOK := hide hok
      have hlt' : (k : Int) < (n : Int) := by omega
      have HNM := hide (refName_any (l.getD k []) wr (unhide HL k))
      have HNO := hide (okl_nm k hkl)
      have HST := hide (okl_step k hkl hok)
      have HB := hide hbr
      clear hok
      by_cases h0 : k = 0
      · subst h0
        rw [Nat.add_zero] at hc0
        generalize l.getD 0 [] = x at *
        cases hx : nm x
        · rw [hx] at HNM
          have HR := hide (unhide HNO hx)
          clear HNO HST HOK hx hbr
          go_wp2_with (first | (go_at_call 30; refine (unhide HNM).mono ?_; rintro e w2 ⟨rfl, rfl⟩) | fail)
          go_quiet (fail)
          have HB2 := hide (bel_q (unhide HB) nq)
          generalize w2.drewN nq = wv at *
          go_wp2
          go_ret
          exact ⟨by rw [unhide HR]; rfl, unhide HB2⟩
        · rw [hx] at HNM
          have HR := hide (unhide HST hx (fun h => absurd h (Nat.lt_irrefl 0)))
          clear HNO HST HOK hx hbr
          go_wp2_with (first | (go_at_call 30; refine (unhide HNM).mono ?_; rintro e w2 ⟨rfl, rfl⟩) | fail)
          go_quiet (fail)
          have HB2 := hide (bel_q (unhide HB) nq)
          generalize w2.drewN nq = wv at *
          go_wp2
          refine ⟨⟨1, by omega, by go_num, unhide HR, unhide HB2⟩, by simp [Go.RowKit.intOf]; omega⟩
      · obtain ⟨k, rfl⟩ : ∃ m, k = m + 1 := ⟨k - 1, by omega⟩
        have h0' : decide ((0 : Int) < ((k + 1 : Nat) : Int)) = true := by rw [decide_eq_true_eq]; omega
        obtain ⟨p', o', e1, _, hc1⟩ := ((unhide HP).below hbr).at (show k < n by omega)
        cases e1
        have HUP := hide (okl_up (k + 1) hkl (by omega))
        rw [Nat.add_sub_cancel] at HUP HST
        generalize l.getD (k + 1) [] = x at *
        generalize l.getD k [] = y at *
        cases hx : nm x
        · rw [hx] at HNM
          have HR := hide (unhide HNO hx)
          clear HNO HST HOK hx HUP hbr
          go_wp2_with (first | (go_at_call 30; refine (unhide HNM).mono ?_; rintro e w2 ⟨rfl, rfl⟩) | fail)
          go_quiet (fail)
          have HB2 := hide (bel_q (unhide HB) nq)
          generalize w2.drewN nq = wv at *
          go_wp2
          go_ret
          exact ⟨by rw [unhide HR]; rfl, unhide HB2⟩
        · rw [hx] at HNM
          have HR := hide (unhide HST hx)
          have hq : ∀ W, (binOp .leq 9 (S x) (S y)).run Tryd.prog W = .ok (.bool (decide (¬ y < x))) W := run_leq x y
          clear HNO HST HOK hx hbr
          by_cases hxy : y < x
          · rw [show decide (¬ y < x) = false by simp [hxy]] at hq
            have HR2 := hide (unhide HR (fun _ => hxy))
            clear HR HUP hxy
            go_wp2_with (first | (go_at_call 30; refine (unhide HNM).mono ?_; rintro e w2 ⟨rfl, rfl⟩) | fail)
            go_quiet (fail)
            have HB2 := hide (bel_q (unhide HB) nq)
            generalize w2.drewN nq = wv at *
            go_wp2
            refine ⟨⟨k + 1 + 1, by omega, by go_num, unhide HR2, unhide HB2⟩, by simp [Go.RowKit.intOf]; omega⟩
          · rw [show decide (¬ y < x) = true by simp [hxy]] at hq
            have HR2 := hide (unhide HUP hxy)
            clear HR HUP hxy
            go_wp2_with (first | (go_at_call 30; refine (unhide HNM).mono ?_; rintro e w2 ⟨rfl, rfl⟩) | fail)
            go_quiet (fail)
            have HB2 := hide (bel_q (unhide HB) nq)
            generalize w2.drewN nq = wv at *
            go_wp2
            go_ret
            exact ⟨by rw [unhide HR2]; rfl, unhide HB2⟩
    · have hd : ¬ (k : Int) < (n : Int) := by omega
      have e : l.take k = l := List.take_of_length_le (by have := unhide HN; omega)
      rw [e] at hok
      have HOK := hide hok
      have HB := hide hbr
      clear hok e hbr
      go_wp2
      go_ret
      exact ⟨by rw [unhide HOK]; rfl, unhide HB⟩
end Go.Proofs.YtknlafgaagimjaaDoor
