import Derived.Test.YtmjaobddgaglhaaGreatDoorHstr
import Derived.Test.YtmjaobddgaglhaaGreatDoorZcsh
namespace Go.Proofs.YtmjaobddgaglhaaGreatDoor
open Go.RowKit
open Sha
set_option maxRecDepth 8000
theorem rep0 (c : Nat) : Lib.repeatL (ByteArray.mk #[0]).data.toList c = List.replicate c 0 := by
  induction c with
  | zero => rfl
  | succ c ih => simp [Lib.repeatL, ih, List.replicate_succ]
theorem number_int (x k : Int) (n size : Nat) (hx : x = n) (hk : k = size) (w : World) (hn : n < 18446744073709551616) (h1 : 1 ≤ size) (h8 : size ≤ 8) :
    Calls Tryz.prog 151 #[.int .u64 x, .int .i64 k] w fun e w' => e = .returned (.string ⟨(nb n size).toArray⟩) ∧ Below w.heap.size w w' := by
  subst hx hk
  exact number_anyH n size w hn h1 h8
theorem bytes_append (a b : List UInt8) : (ByteArray.mk a.toArray) ++ (ByteArray.mk b.toArray) = ⟨(a ++ b).toArray⟩ := by
  apply ByteArray.ext
  simp [ByteArray.data_append]
theorem fil_eq (n : Nat) : (ByteArray.mk #[128] ++ ByteArray.mk (Array.replicate ((119 - n % 64) % 64) 0)) ++ ByteArray.mk (nb (8 * n) 8).toArray = ⟨(fil n).toArray⟩ := by
  have e1 : ByteArray.mk #[128] = ByteArray.mk ([128] : List UInt8).toArray := rfl
  have e2 : (Array.replicate ((119 - n % 64) % 64) (0 : UInt8)) = (List.replicate ((119 - n % 64) % 64) (0 : UInt8)).toArray := by simp
  rw [e1, e2, bytes_append, bytes_append]
  simp [fil]
set_option maxHeartbeats 1000000 in
theorem filling_any (n : Nat) (w : World) (hn : n < 1152921504606846976) :
    Calls Tryz.prog 132 #[.int .i64 n] w fun e w' => e = .returned (.string ⟨(fil n).toArray⟩) ∧ Below w.heap.size w w' := by
  have he := hide (fil_eq n)
  go_enter Tryz.func132, Tryz.ntmps132
  go_wp2_with fail
  rw [show ((119 - (n : Int)) % 64) = (((119 - n % 64) % 64 : Nat) : Int) from by omega]
  refine (Tryz.strings_Repeat ⟨#[0]⟩ ((119 - n % 64) % 64) w (by omega) (by show 1 * _ ≤ _; omega)).mono ?_
  rintro e w1 ⟨rfl, hb1⟩
  rw [rep0]
  go_wp2_with fail
  refine (number_int (8 * n) 8 (8 * n) 8 (by omega) (by omega) w1 (by omega) (by omega) (by omega)).mono ?_
  rintro e w2 ⟨rfl, hb2⟩
  have hl : (nb (8 * n) 8).length ≤ 8 := by simp [nb]
  go_wp2
  go_ret
  refine ⟨?_, hb1.trans (hb2.mono hb1.size)⟩
  rw [← unhide he]
  rfl
end Go.Proofs.YtmjaobddgaglhaaGreatDoor
