import Derived.Test.YtpidmpefodnffaaGreatDoorShlb
import Derived.Test.YtpidmpefodnffaaGreatDoorZscb
import Derived.Shelf.Strings.Split
import Derived.Shelf.Strings.Search3
import Derived.Shelf.Strings.Count
import Derived.Shelf.Sort.Plain
import Derived.Shelf.Slices.In.SortNone
import Derived.Test.YtpidmpefodnffaaGreatDoorProg
import Derived.Test.YtpidmpefodnffaaGreatDoorPsb
import Derived.Lib.IndexBytes
namespace Go.Proofs.YtpidmpefodnffaaGreatDoor
open Go.RowKit Go.Lib
theorem hi9 : (Tryz.prog.info? 9).map (fun i => (i.zero, i.size, i.bytes)) = some (some (.string ByteArray.empty), 1, 16) := by kernel_rfl
theorem index_any (x : ByteArray) (w : World) : Calls Tryz.prog 220 #[.string x, .string ⟨#[32]⟩] w fun e w' => e = .returned (.int .i64 (indexB x ⟨#[32]⟩)) ∧ w' = w := by
  refine (Tryz.strings_Index_one x 32 w).mono fun e w' ⟨he, hw⟩ => ⟨?_, hw⟩
  rw [he]
  show _ = Ending.returned (Value.int .i64 (index x.data.toList [32]))
  rw [index_one]
theorem count_any (x : ByteArray) (w : World) : Calls Tryz.prog 219 #[.string x, .string ⟨#[32]⟩] w fun e w' => e = .returned (.int .i64 (countB x ⟨#[32]⟩)) ∧ w' = w := by
  refine (Tryz.strings_Count_one x 32 w).mono fun e w' ⟨he, hw⟩ => ⟨?_, hw⟩
  rw [he]
  show _ = Ending.returned (Value.int .i64 ((count x.data.toList [32] : Nat) : Int))
  rw [count_one]
  rfl
theorem cnt_le (s : Bs) : countB ⟨s.toArray⟩ ⟨#[32]⟩ ≤ s.length := by
  have := countB_le ⟨#[32]⟩ (by decide) _ ⟨s.toArray⟩ (Nat.le_refl _)
  rw [ba_len] at this
  exact this
def cellsS (l : List Bs) : Array Value := (l.map fun x => S x).toArray
theorem genSplit_any (s : Bs) (w : World) (hs : s.length < 4294967281) : Calls Tryz.prog 216 #[S s, S [32], .int .i64 0, .int .i64 (-1)] w fun e w' =>
    e = .returned (.slice (some ⟨w.heap.size, 0, none⟩) (spl s).length (spl s).length) ∧ w' = w.alloc (.cells (cellsS (spl s)) 9) := by
  have hc := count_spl s
  have hle := cnt_le s
  have hlen : (splitB ⟨#[32]⟩ 0 (countB ⟨s.toArray⟩ ⟨#[32]⟩) ⟨s.toArray⟩).length = (spl s).length := by rw [← splitB_spl, List.length_map]
  have h := Any.strings_genSplit_core Tryz.lays221 hi9 ⟨s.toArray⟩ ⟨#[32]⟩ 0 (-1) (spl s).length w (by rw [ba_len]; exact hs) (by decide) (Nat.zero_le _) (fun x c _ => index_any x _) (count_any _ w) (by decide) (by decide)
    (by rw [if_pos (by decide), ba_len]; omega)
  rw [show (spl s).length - 1 = countB ⟨s.toArray⟩ ⟨#[32]⟩ by omega, hlen] at h
  refine h.mono ?_
  rintro e w' ⟨rfl, rfl⟩
  refine ⟨rfl, ?_⟩
  have e2 : cellsOf (splitB ⟨#[32]⟩ 0 (countB ⟨s.toArray⟩ ⟨#[32]⟩) ⟨s.toArray⟩) (spl s).length = cellsS (spl s) := by
    rw [← hlen, cellsOf_full, splitB_cells]
    rfl
  rw [e2]
  rfl
theorem split_any (s : Bs) (w : World) (hs : s.length < 4294967281) : Calls Tryz.prog 213 #[S s, S [32]] w fun e w' =>
    e = .returned (.slice (some ⟨w.heap.size, 0, none⟩) (spl s).length (spl s).length) ∧ w' = w.alloc (.cells (cellsS (spl s)) 9) := by
  have HG := hide (genSplit_any s w hs)
  generalize (spl s) = u at *
  go_enter Tryz.func213, Tryz.ntmps213
  go_wp2_with (first | (go_at_call 216; refine (unhide HG).mono ?_; rintro e w2 ⟨rfl, rfl⟩))
  go_ret
  exact ⟨rfl, rfl⟩
theorem spl_cnt (s : Bs) : (spl s).length ≤ s.length + 1 := by
  have := cnt_le s
  rw [← count_spl]
  omega
theorem sts_new (w : World) (l : List Bs) : Sts (w.alloc (.cells (cellsS l) 9)) (some ⟨w.heap.size, 0, none⟩) l.length l := by
  refine ⟨rfl, fun _ => ⟨w.heap.size, 0, rfl, fun j hj => ?_⟩⟩
  rw [Nat.zero_add]
  rw [cell_of_row _ _ j _ 9 (0, 0) (heap_alloc_new _ _)]
  simp [cellsS, hj]
end Go.Proofs.YtpidmpefodnffaaGreatDoor
