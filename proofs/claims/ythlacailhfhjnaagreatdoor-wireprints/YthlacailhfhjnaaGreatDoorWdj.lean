import Derived.Test.YthlacailhfhjnaaGreatDoorWdi
namespace Go.Proofs.YthlacailhfhjnaaGreatDoor
open Go.RowKit Go.Lib
/-- Headers in new memory. -/
structure Hds (v : Value) (hs : List Fl) (w w' : World) : Prop where
  row : w'.ownsRow 0 35 2 v hs.length (cellsF hs)
  new : ∀ k, v.ownBlock = some k → w.heap.size ≤ k
  bel : Below w.heap.size w w'
  few : hs.length ≤ 32
  all : hs.all hdr = true
set_option maxHeartbeats 8000000 in
set_option maxRecDepth 8000 in
theorem headers_any (a : Option Addr) (n cap : Nat) (fs : List Fl) (w : World) (hp : Fls w a n fs) (hL : Lens fs) (hn : n ≤ 140737488351232) :
    Calls Tryz.prog 40 #[.slice a n cap] w fun e w' => ∃ v hs, e = .returned v ∧ Hds v hs w w' := by
  have HP := hide hp
  clear hp
  go_enter Tryz.func40, Tryz.ntmps40
  go_wp2
  go_loopw [3, 4] (fun v i wr => ∃ (k : Nat) (hs : List Fl), k ≤ n ∧ k ≤ 32 ∧ i = .int .i64 k ∧ hs.length = k ∧ Hds v hs w wr) (fun _ i _ => n - (Go.RowKit.intOf i).toNat)
  case atStart => exact ⟨0, [], by omega, by omega, rfl, rfl, ⟨⟨rfl, .inl ⟨rfl, rfl⟩⟩, (fun k h => nomatch h), Below.refl _ _, by decide, rfl⟩⟩
  case round =>
    obtain ⟨k, hs, hk, hk32, rfl, hl, hh⟩ := hrel
    by_cases hlt : k < n ∧ k < 32
    · obtain ⟨hlt, hlt2⟩ := hlt
      obtain ⟨p, o, rfl, hpl, hc0, hc1⟩ := ((unhide HP).below hh.bel).at hlt
      have hLk := hL k
      generalize fs.getD k fl0 = F at *
      obtain ⟨fn, fv⟩ := F
      simp only at hc0 hc1 hLk
      have hlt' : (k : Int) < (n : Int) := by omega
      have hlt2' : (k : Int) < 32 := by omega
      have HC := hide (header_any fn fv wr hLk.1 hLk.2)
      obtain ⟨pv, cv, hpv⟩ := owns_form hh.row
      subst hpv
      have HH := hide hh
      have HL := hide hl
      clear hh hl
      go_wp2_with fail
      refine (unhide HC).mono ?_
      rintro e w2 ⟨⟨f, rfl, hf⟩, b2⟩
      obtain ⟨g1, g2⟩ := f
      have HF := hide hf
      have HR2 := hide (show w2.ownsRow 0 35 2 _ hs.length (cellsF hs) from owns_same (unhide HH).row (fun j hj => by
        obtain ⟨cs, q⟩ := owns_lt (unhide HH).row j hj
        exact b2.block j (lt_of_row q)))
      have HB2 := hide b2
      clear b2 hf HC
      go_wp2_with (first | (at_builtin; refine push_own 22 35 _ 2 32 Tryz.underlying22 info35 rfl (by decide) rfl (.tmp 15) (.tmp 21) rfl (.slice pv hs.length cv) hs.length (cellsF hs) (by rfl) w2 (unhide HR2) [S g1, S g2] (by rfl) (by intro u hu; simp at hu; rcases hu with rfl | rfl <;> rfl) (by rfl) (by have := unhide HL; omega) (by have := unhide HL; omega) ?_; intro pb cb W5 ho5 hw5 hn5))
      refine ⟨⟨k + 1, hs ++ [(g1, g2)], by omega, by omega, by go_num, by rw [List.length_append, unhide HL]; rfl, ⟨?_, ?_, ?_, ?_, ?_⟩⟩, ?_⟩
      · rw [List.length_append, cellsF_append]; exact ho5
      · intro j hj
        rcases hn5 j hj with q | q
        · exact (unhide HH).new j q
        · exact Nat.le_trans (unhide HH).bel.size (Nat.le_trans (unhide HB2).size q)
      · exact hw5.below ((unhide HH).bel.trans ((unhide HB2).mono (unhide HH).bel.size)) (Nat.le_trans (unhide HH).bel.size (unhide HB2).size) (fun j hj => (unhide HH).new j hj)
      · rw [List.length_append, unhide HL]; show k + 1 ≤ 32; omega
      · rw [List.all_append, (unhide HH).all]
        simp [unhide HF]
      · simp [Go.RowKit.intOf]; omega
    · have HH := hide hh
      have hd : decide (k < n) = false ∨ ((k : Int) < (n : Int) ∧ decide (k < 32) = false) := by
        by_cases q : k < n
        · right; exact ⟨by omega, by simp; omega⟩
        · left; simp; omega
      clear hh hl
      rcases hd with hd | ⟨hd0, hd⟩
      · go_wp2
        go_ret
        first | exact ⟨_, hs, rfl, unhide HH⟩ | exact ⟨_, rfl, hs, unhide HH⟩
      · have hd2 : ¬ (k : Int) < 32 := by simp at hd; omega
        have hd3 : decide ((k : Int) < 32) = false := by simpa using hd2
        go_wp2
        go_ret
        first | exact ⟨_, hs, rfl, unhide HH⟩ | exact ⟨_, rfl, hs, unhide HH⟩
end Go.Proofs.YthlacailhfhjnaaGreatDoor
