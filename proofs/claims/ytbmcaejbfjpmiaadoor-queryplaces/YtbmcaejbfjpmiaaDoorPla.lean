import Derived.Test.YtbmcaejbfjpmiaaDoorTxa
namespace Go.Proofs.YtbmcaejbfjpmiaaDoor
open Go.RowKit Go.Lib
set_option maxHeartbeats 4000000 in
set_option maxRecDepth 8000 in
theorem places_walk (s : List UInt8) (w : World) (hE : Env w.heap.size w) (hs : s.length ≤ 9223372036854775807) :
    Calls Tryd.prog 7 #[S s] w fun e w' => e = .returned (.bool true) ∧ Below w.heap.size w w' := by
  by_cases hb : 2147483647 < s.length
  · have ib : (2147483647 : Int) < (s.length : Nat) := by omega
    go_enter Tryd.func7, Tryd.ntmps7
    go_wp2
    go_ret
    exact ⟨rfl, Below.refl _ _⟩
  · have ib : ¬ (2147483647 : Int) < (s.length : Nat) := by omega
    have HW := hide (awake_any w hE)
    have HE := hide hE
    have HP := hide (fun W (hW : Env W.heap.size W) => parse_any s W hW (by omega))
    clear hE
    cases hp : parse s with
    | ok fs =>
      go_enter Tryd.func7, Tryd.ntmps7
      go_wp2_with fail
      refine (unhide HW).mono ?_
      rintro e w1 ⟨rfl, b1⟩
      have B1 := hide b1
      clear b1
      go_wp2_with fail
      refine (unhide HP w1 ((unhide HE).next (unhide B1))).mono ?_
      intro e w2 h2
      unfold Told at h2
      rw [hp] at h2
      obtain ⟨b2, v, rfl, o2⟩ := h2
      have B2 := hide ((unhide B1).trans (b2.mono (unhide B1).size))
      clear b2 o2 hp
      go_wp2
      go_ret
      exact ⟨rfl, unhide B2⟩
    | error x =>
      obtain ⟨ec, n⟩ := x
      obtain ⟨hnl, hcase⟩ := parse_place s ec n hp
      obtain ⟨X, hX⟩ : ∃ X : ByteArray, X = ⟨s.toArray⟩ := ⟨_, rfl⟩
      have hsz : X.size = s.length := by rw [hX]; simp [ByteArray.size]
      have hcat : X.extract 0 n ++ ⟨#[120]⟩ = ⟨(s.take n ++ [120]).toArray⟩ := by
        subst hX
        rw [extract_eq]
        apply ByteArray.ext
        simp
      have HP2 := hide (fun W (hW : Env W.heap.size W) => parse_any (s.take n ++ [120]) W hW (by simp; omega))
      unfold S at HP2
      rw [← hcat] at HP2
      show Calls Tryd.prog 7 #[.string ⟨s.toArray⟩] w _
      unfold S at HP
      rw [← hX] at HP ⊢
      have hib : ¬ (2147483647 : Int) < (X.size : Nat) := by omega
      have hn0 : ¬ (n : Int) < 0 := by omega
      have hn1 : ¬ (s.length : Int) < (n : Int) := by omega
      have hn2 : (n : Int) ≤ (s.length : Int) := by omega
      have hec : ¬ (ec : Int) = 0 := by rcases hcase with ⟨h, _⟩ | ⟨h | h, _⟩ <;> omega
      have j1 : decide ((s.length : Int) < (n : Int)) = false := decide_eq_false hn1
      have j2 : decide (s.length < n) = false := decide_eq_false (by omega)
      have j3 : decide ((n : Int) < 0) = false := decide_eq_false hn0
      clear hX hcat
      go_enter Tryd.func7, Tryd.ntmps7
      go_wp2_with fail
      refine (unhide HW).mono ?_
      rintro e w1 ⟨rfl, b1⟩
      have B1 := hide b1
      clear b1
      go_wp2_with fail
      refine (unhide HP w1 ((unhide HE).next (unhide B1))).mono ?_
      intro e w2 h2
      unfold Told at h2
      rw [hp] at h2
      obtain ⟨b2, rfl⟩ := h2
      have B2 := hide ((unhide B1).trans (b2.mono (unhide B1).size))
      clear b2 hp
      rcases hcase with ⟨rfl, hc⟩ | ⟨h, a, hc, hne⟩
      · go_wp2_with fail
        refine (unhide HP2 w2 ((unhide HE).next (unhide B2))).mono ?_
        intro e w3 h3
        unfold Told at h3
        rw [hc] at h3
        obtain ⟨b3, rfl⟩ := h3
        have B3 := hide ((unhide B2).trans (b3.mono (unhide B2).size))
        clear b3 hc
        go_wp2
        go_ret
        exact ⟨rfl, unhide B3⟩
      · have h32 : ¬ (ec : Int) = 32 := by omega
        have hal : 0 < a.length := List.length_pos_iff.2 hne
        have hlen := parse_len _ _ hc
        have HC := hide hc
        have fin : ∀ (e : Ending) (w3 : World), Told (s.take n ++ [120]) e w2 w3 → ∃ p cap, e = .returned (.tuple #[.slice p a.length cap, .int .i64 0, .int .i64 0]) ∧ Below w.heap.size w w3 := by
          intro e w3 h3
          unfold Told at h3
          rw [unhide HC] at h3
          obtain ⟨b3, v, rfl, o3⟩ := h3
          obtain ⟨p, cap, rfl⟩ := o3.len
          exact ⟨p, cap, rfl, (unhide B2).trans (b3.mono (unhide B2).size)⟩
        have FIN := hide fin
        clear fin hc hne
        have ial : (0 : Int) < (a.length : Int) := by omega
        rcases h with rfl | rfl
        all_goals
          go_wp2_with fail
          refine (unhide HP2 w2 ((unhide HE).next (unhide B2))).mono ?_
          intro e w3 h3
          obtain ⟨p, cap, rfl, B3⟩ := unhide FIN _ _ h3
          have B3' := hide B3
          clear h3 B3
          go_wp2
          go_ret
          exact ⟨rfl, unhide B3'⟩
end Go.Proofs.YtbmcaejbfjpmiaaDoor
