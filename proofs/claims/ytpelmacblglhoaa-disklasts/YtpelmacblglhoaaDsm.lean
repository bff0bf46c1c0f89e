import Derived.Test.YtpelmacblglhoaaDsl
namespace Go.Proofs.Ytpelmacblglhoaa
open Go.RowKit
set_option maxHeartbeats 4000000
set_option maxRecDepth 8000
theorem write_any {D : Nat} {d : Ds} {vw vl : Value} {w : World} (h : DAt D d vw vl w) (ho : Ok d) (ha : 0 ≤ d.acts ∧ d.acts ≤ 1000000000000000000) (b : Int) (s : Bs) :
    Calls Try.prog 26 #[ptr D, I b, S s] w fun e w' => e = .returned (I (writev d b s)) ∧ ∃ vw', DAt D (d.write b s) vw' vl w' ∧ Only (fun k => k = D ∨ vw.ownBlock = some k) w w' ∧ (∀ k, vw'.ownBlock = some k → vw.ownBlock = some k ∨ w.heap.size ≤ k) := by
  have H0 := hide (fun W => wrongSize_any s W)
  have H1 := hide (reach_any h b)
  have H2 := hide (act_any h ho.fuse ha)
  have HD := hide h
  have HO := hide ho
  unfold writev Ds.write
  clear h ho ha
  by_cases hs : s.length = 512
  · have e0 : decide (s.length ≠ 512) = false := by simp [hs]
    have n0 : ¬ s.length ≠ 512 := by simpa using hs
    rw [e0] at H0
    rw [if_neg n0, if_neg n0]
    by_cases hr : reachv d b = 0
    · obtain ⟨r1, r2, r3⟩ := reach_ok hr
      have n1 : ¬ reachv d b ≠ 0 := by simpa using hr
      rw [if_neg n1, if_neg n1]
      rw [hr] at H1
      clear n0 n1
      obtain ⟨c, rfl⟩ : ∃ c : Nat, b = (c : Int) := ⟨b.toNat, by omega⟩
      by_cases ht : actv d = 0
      · rw [ht] at H2
        have n2 : ¬ actv d ≠ 0 := by simpa using ht
        rw [if_neg n2, ht]
        simp only [Int.toNat_natCast]
        clear n2
        go_enter Try.func26, Try.ntmps26
        go_wp2_with fail
        refine (unhide H0 _).mono ?_
        rintro e w0 ⟨rfl, rfl⟩
        go_wp2_with fail
        refine (unhide H1).mono ?_
        rintro e w0 ⟨rfl, rfl⟩
        go_wp2_with fail
        refine (unhide H2).mono ?_
        rintro e w2 ⟨rfl, h2, o2⟩
        have hl2 := h2.lt
        have H3 := hide (put_any h2 (unhide HO).act c s hs)
        have O2 := hide o2
        clear h2 o2
        go_wp2_with fail
        refine (unhide H3).mono ?_
        rintro e w3 ⟨rfl, vw', h3, o3, n3⟩
        have HF := hide (And.intro h3 (And.intro (((unhide O2).mono (Q := fun k => k = D ∨ vw.ownBlock = some k) (fun _ _ q => Or.inl q)).trans o3 (fun _ _ q => q)) (fun k hk => (n3 k hk).imp id (fun q => Nat.le_trans (unhide O2).size q))))
        clear h3 o3 n3
        go_wp2
        go_ret
        exact ⟨rfl, vw', unhide HF⟩
      · have n2 : actv d ≠ 0 := ht
        rw [if_pos n2]
        generalize actv d = r at *
        go_enter Try.func26, Try.ntmps26
        go_wp2_with fail
        refine (unhide H0 _).mono ?_
        rintro e w0 ⟨rfl, rfl⟩
        go_wp2_with fail
        refine (unhide H1).mono ?_
        rintro e w0 ⟨rfl, rfl⟩
        go_wp2_with fail
        refine (unhide H2).mono ?_
        rintro e w2 ⟨rfl, h2, o2⟩
        have HF := hide (And.intro h2 (o2.mono (Q := fun k => k = D ∨ vw.ownBlock = some k) (fun _ _ q => Or.inl q)))
        clear h2 o2
        go_wp2
        go_ret
        exact ⟨rfl, vw, (unhide HF).1, (unhide HF).2, fun k hk => .inl hk⟩
    · have n1 : reachv d b ≠ 0 := hr
      rw [if_pos n1, if_pos n1]
      clear n1 n0
      generalize reachv d b = r at *
      go_enter Try.func26, Try.ntmps26
      go_wp2_with fail
      refine (unhide H0 _).mono ?_
      rintro e w0 ⟨rfl, rfl⟩
      go_wp2_with fail
      refine (unhide H1).mono ?_
      rintro e w0 ⟨rfl, rfl⟩
      go_wp2
      go_ret
      exact ⟨rfl, vw, unhide HD, Only.refl _ _, fun k hk => .inl hk⟩
  · have e0 : decide (s.length ≠ 512) = true := by simp [hs]
    have n0 : s.length ≠ 512 := hs
    rw [e0] at H0
    rw [if_pos n0, if_pos n0]
    clear n0
    go_enter Try.func26, Try.ntmps26
    go_wp2_with fail
    refine (unhide H0 _).mono ?_
    rintro e w0 ⟨rfl, rfl⟩
    go_wp2
    go_ret
    exact ⟨rfl, vw, unhide HD, Only.refl _ _, fun k hk => .inl hk⟩
end Go.Proofs.Ytpelmacblglhoaa
