import Derived.Test.YtdncebdlhoogcaaFilr
import Derived.Test.YtdncebdlhoogcaaFill
namespace Go.Proofs.Ytdncebdlhoogcaa
open Go.RowKit
open Sha
def zs (n : Nat) : Nat := (119 - n % 64) % 64
def fz (s : List UInt8) (j : Nat) : List UInt8 := s ++ [128] ++ List.replicate j 0
theorem fz_len (s : List UInt8) (j : Nat) : (fz s j).length = s.length + 1 + j := by simp [fz]; omega
theorem fz_zero (s : List UInt8) : fz s 0 = s ++ [128] := by simp [fz]
def lenOf : Value → Nat
  | .slice _ n _ => n
  | _ => 0
theorem fz_next (s : List UInt8) (j : Nat) : fz s j ++ [0] = fz s (j + 1) := by
  simp [fz, List.replicate_succ']
theorem fz_all (s : List UInt8) : fz s (zs s.length) ++ nb (8 * s.length) 8 = s ++ fil s.length := by
  simp [fz, fil, zs]
set_option maxHeartbeats 1000000 in
set_option maxRecDepth 8000 in
theorem rfilled_any (s : List UInt8) (w : World) (hs : s.length ≤ 140737488351232) :
    Calls Try.prog 33 #[.string ⟨s.toArray⟩] w fun e w' => e = .returned (.string ⟨(s ++ fil s.length).toArray⟩) ∧ Below w.heap.size w w' := by
  go_enter Try.func33, Try.ntmps33
  go_wp2_with (first | (refine wpList_bytesB rfl (.tmp 4) rfl s (by rfl) ?_; intro w1 cap hB hb1; have HB := hide hB; clear hB) | (refine wpList_push rfl (.tmp 6) (.tmp 7) rfl w.heap.size w.heap.size cap s (by rfl) ((unhide HB).below (alloc_below w1 _)) (by have := hb1.size; simp; omega) w1.heap.size 128 (by rfl) (by simp) (by omega) ?_; intro w2 g2 cap2 hB2 hb2))
  have hI0 : BB w2 w.heap.size g2 cap2 (fz s 0) := by
    rw [fz_zero]
    exact hB2
  have hbe2 : Below w.heap.size w w2 := (hb1.alloc hb1.size _).trans hb2
  have HI0 := hide hI0
  clear HB hB2 hb1 hb2 hI0
  go_loopw [3] (fun v wr => ∃ (j g cap : Nat), j ≤ zs s.length ∧ v = .slice (some ⟨g, 0, none⟩) (s.length + 1 + j) cap ∧ BB wr w.heap.size g cap (fz s j) ∧ Below w.heap.size w wr) (fun v _ => s.length + 1 + zs s.length - lenOf v)
  case atStart => exact ⟨0, g2, cap2, by omega, rfl, unhide HI0, hbe2⟩
  case round =>
    clear HI0 hbe2
    obtain ⟨j, g, cap', hj, rfl, hI, hbe⟩ := hrel
    have hz : zs s.length = (119 - s.length % 64) % 64 := rfl
    by_cases hlt : j < zs s.length
    · have hne : ((s.length + 1 + j : Nat) : Int) % 64 ≠ 56 := by omega
      have HI := hide hI
      clear hI
      go_wp2_with (refine wpList_pushN rfl (.tmp 13) (.tmp 14) rfl w.heap.size g cap' (s.length + 1 + j) (fz s j) (fz_len s j) (by rfl) ((unhide HI).below (alloc_below wr _)) (by have := hbe.size; simp; omega) wr.heap.size 0 (by rfl) (by simp) (by omega) ?_; intro w3 g3 cap3 hB3 hb3)
      rw [fz_next] at hB3
      go_roundw
      case rel => exact ⟨j + 1, g3, cap3, by omega, rfl, hB3, (hbe.alloc hbe.size _).trans hb3⟩
      case measure => simp only [lenOf]; omega
    · have hjz : j = zs s.length := by omega
      have heq : (((s.length : Int) + 1 + (j : Int)) % 64) = 56 := by omega
      have heq' : ((((s.length : Int) + 1 + (j : Int)) % 64) != 56) = false := by rw [heq]; rfl
      clear hj
      have hT : ∀ w', Below wr.heap.size wr w' → (convert 33 9 (.slice (some ⟨g, 0, none⟩) (s.length + 1 + j) cap')).run Try.prog w' = .ok (.string ⟨(fz s j).toArray⟩) w' := fun w' hb => (hI.below hb).textN (fz_len s j)
      have hF := hide (show fz s j ++ nb (8 * s.length) 8 = s ++ fil s.length by rw [hjz]; exact fz_all s)
      have hT1 := hT wr.drew ((Below.refl wr.heap.size wr).drew)
      have hXl : (fz s j).length ≤ 140737488351296 := by rw [fz_len]; omega
      have hl8 : (nb (8 * s.length) 8).length ≤ 8 := by simp [nb]
      generalize fz s j = X at *
      clear hI hlt hz hjz
      go_wp2_with fail
      have hW8 : IntKind.i64.wrap (8 * (s.length : Int)) = ((8 * s.length : Nat) : Int) := by rw [IntKind.wrap_i64]; omega
      have hq : ∀ w', Calls Try.prog 37 #[.int .i64 (IntKind.i64.wrap (8 * (s.length : Int))), .int .i64 8] w' fun e w'' => e = .returned (.string ⟨(nb (8 * s.length) 8).toArray⟩) ∧ Below w'.heap.size w' w'' :=
        fun w' => big_int (IntKind.i64.wrap (8 * (s.length : Int))) 8 (8 * s.length) 8 hW8 rfl w' (by omega) (by omega) (by omega)
      clear heq heq' hW8
      go_region_with (go_at_call 37; refine (hq _).mono ?_; rintro e wb ⟨rfl, hbb⟩; have hT2 := hT wb (((Below.refl wr.heap.size wr).drew).trans hbb))
      all_goals (go_wp2; go_ret)
      all_goals refine ⟨?_, hbe.trans ((((Below.refl wr.heap.size wr).drew).trans hbb).mono hbe.size)⟩
      all_goals (rw [← unhide hF, ← bytes_append]; rfl)
end Go.Proofs.Ytdncebdlhoogcaa
