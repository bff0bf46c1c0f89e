import Derived.Test.YtjopnhhdemfniaaGreatDoorZpic
import Derived.Test.YtjopnhhdemfniaaGreatDoorZphe
namespace Go.Proofs.YtjopnhhdemfniaaGreatDoor
open Go.RowKit
set_option maxHeartbeats 8000000
set_option maxRecDepth 8000
theorem made_zero (n : Nat) : (madeCells (Value.int .u8 0).cells (n * 1)).toList = (List.replicate n (0 : UInt8)).map B := by
  rw [Nat.mul_one, made1 _ rfl n]
  simp [B]
/-- What a head without a root reaches. -/
theorem reach0_any {D : Nat} (g b : Int) (n : Bs) (w : World) (m : Nat) (hb : b = (m : Int)) (hm : m ≤ 4096) :
    Calls Tryz.prog 109 #[ptr D, .agg #[I g, I 0, I b, S n]] w fun e w' => ∃ vu, e = .returned (.tuple #[vu, .bool true]) ∧ Uls w' vu (List.replicate m 0) ∧ (∀ k, vu.ownBlock = some k → w.heap.size ≤ k) ∧ Below w.heap.size w w' := by
  subst hb
  have HB := hide ((Below.refl w.heap.size w).alloc (Nat.le_refl _) (.cells #[I g, I 0, I m, S n] 123))
  have HG := hide (heap_alloc_new w (.cells #[I g, I 0, I m, S n] 123))
  have hm0 : (0 : Int) ≤ (m : Int) := by omega
  go_enter Tryz.func109, Tryz.ntmps109
  go_wp2_with (refine make_own 168 5 _ 1 1 Tryz.underlying168 info5 rfl (.tmp 12) (.tmp 12) rfl _ _ m (by rfl) (by rfl) rfl rfl (by omega) (by omega) ?_; intro w1 ho1 b1 l1; have c1 := box4 (unhide HG) b1 (lt_of_row (unhide HG)); obtain ⟨d0, d1, d2, d3⟩ := c1; have HO := hide ho1; have HB1 := hide ((unhide HB).trans (b1.mono (unhide HB).size)); clear ho1 b1)
  go_loopw [7] (fun V wr => V = .slice none 0 0 ∧ wr = w1) (fun _ _ => 0)
  case atStart => exact ⟨rfl, rfl⟩
  case round =>
    obtain ⟨rfl, hwr⟩ := hrel
    subst hwr
    go_wp2
    go_ret2
    refine ⟨_, rfl, ?_, fun k hk => ?_, unhide HB1⟩
    · have := unhide HO
      rw [show (w.alloc (.cells #[I g, I 0, I m, S n] 123)).heap.size = w.heap.size + 1 by simp] at this
      unfold Uls
      rw [List.length_replicate, ← made_zero]
      exact this
    · cases hk
      show w.heap.size ≤ w.heap.size + 1
      omega
theorem hon_blocks (d : Ds) (b : Nat) (h : (hon d b).2 = true) : (hon d b).1.blocks = (d.last.length : Int) := by
  unfold hon at *
  split at h
  · rename_i q
    rw [if_pos q]
    simp only [hok, Bool.and_eq_true, beq_iff_eq] at h
    exact h.1.2
  · cases h
theorem lst_blocks (d : Ds) (k : Nat) : lst d k = noHd ∨ (lst d k).blocks = (d.last.length : Int) := by
  induction k with
  | zero => exact .inl rfl
  | succ k ih =>
    unfold lst
    split
    · rename_i h
      exact .inr (hon_blocks d k h.1)
    · exact ih
theorem hct_blocks (d : Ds) (h : (hct d).2 = true) : (hct d).1.blocks = (d.last.length : Int) := by
  rcases lst_blocks d 2 with e | e
  · unfold hct at h
    rw [e] at h
    simp [noHd] at h
  · exact e
/-- A store without a root is mounted. -/
theorem mount0_any {D : Nat} {d : Ds} {vw vl : Value} {w : World} (h : DAt D d vw vl w) (ho : Ok d) (hd : d.dead = false) (hc : (hct d).2 = true) (hr : (hct d).1.root = 0) :
    Calls Tryz.prog 39 #[ptr D] w fun e w' => ∃ P vu, e = .returned (.tuple #[ptr P, I 0]) ∧ PD P D d ⟨(hct d).1, List.replicate d.last.length 0, 0, false⟩ vw vl vu w' ∧ w.heap.size ≤ P ∧ (∀ k, vu.ownBlock = some k → w.heap.size ≤ k) ∧ Below w.heap.size w w' := by
  have H0 := hide (dead_any h)
  rw [hd] at H0
  have H1 := hide (headThatCounts_any h ho)
  have hb := hct_blocks d hc
  rw [hc] at H1
  have HD := hide h
  have HO := hide ho
  have hlen := ho.len
  generalize (hct d).1 = x at *
  obtain ⟨g, r, b, nt⟩ := x
  unfold hda at H1
  simp only at H1 hb hr
  subst hr hb
  have HR := hide (fun W => reach0_any (D := D) g (d.last.length : Int) nt W d.last.length rfl hlen.2)
  generalize hln : d.last.length = ln at *
  have HLN := hide hln
  clear h ho hd hc hln
  go_enter Tryz.func39, Tryz.ntmps39
  go_wp2_with fail
  refine (unhide H0).mono ?_
  rintro e w0 ⟨rfl, hw0⟩
  rw [hw0]
  clear hw0 w0
  go_wp2_with fail
  refine (unhide H1).mono ?_
  rintro e w1 ⟨rfl, b1⟩
  have B1 := hide (b1.alloc b1.size (.cells #[I g, I 0, I ln, S nt] 123))
  have HG := hide (heap_alloc_new w1 (.cells #[I g, I 0, I ln, S nt] 123))
  clear b1
  go_wp2_with fail
  refine (unhide HR _).mono ?_
  rintro e w2 ⟨vu, rfl, u2, n2, b2⟩
  obtain ⟨c0, c1, c2, c3⟩ := box4 (unhide HG) b2 (lt_of_row (unhide HG))
  obtain ⟨q, cap, rfl⟩ := owns_form u2
  have B2 := hide ((unhide B1).trans (b2.mono (unhide B1).size))
  have U2 := hide u2
  have N2 := hide (fun k hk => Nat.le_trans (unhide B1).size (n2 k hk))
  clear u2 n2 b2
  generalize hrl : (List.replicate ln (0 : UInt8)).length = rl at *
  clear hrl
  go_wp2
  go_ret2
  have hb3 := (unhide B2).alloc (unhide B2).size (.cells #[ptr D, I g, I 0, I ln, S nt, .slice q rl cap, .int .u8 0, .bool false] 172)
  refine ⟨w2.heap.size, .slice q rl cap, rfl, ⟨(unhide HD).below hb3, unhide HO, heap_alloc_new _ _, owns_alloc (unhide U2) _, by simp; exact (unhide HLN).symm⟩, (unhide B2).size, unhide N2, hb3⟩
end Go.Proofs.YtjopnhhdemfniaaGreatDoor
