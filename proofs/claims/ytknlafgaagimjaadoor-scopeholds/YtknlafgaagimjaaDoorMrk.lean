import Derived.Test.YtknlafgaagimjaaDoorLnt
import Derived.Lib.BufSteps
namespace Go.Proofs.YtknlafgaagimjaaDoor
open Go.RowKit Go.Lib
theorem ba_app' (x y : Bs) : (ByteArray.mk x.toArray ++ ByteArray.mk y.toArray) = ⟨(x ++ y).toArray⟩ := by
  apply ByteArray.ext
  simp [ByteArray.data_append]
def mk (i : Nat) : Bs := [109, 97, 114, 107, UInt8.ofNat i, 0]
theorem fold_push (l : List UInt8) (r : ByteArray) : (l.map fun c => (c.toNat : Int)).foldl (fun r n => r.push (UInt8.ofNat n.toNat)) r = ⟨r.data ++ l.toArray⟩ := by
  induction l generalizing r with
  | nil => simp
  | cons c l ih =>
    simp only [List.map_cons, List.foldl_cons, ih]
    simp [ByteArray.push]
/-- What lies in memory as bytes is the text of them. -/
theorem run_text (w : World) (g o len cap : Nat) (l : List UInt8) (hl : l.length = len) (h : ∀ j, j < len → w.cell? ⟨g, o + j, none⟩ = some (.int .u8 ((l.getD j 0).toNat : Int))) :
    (convert 63 9 (.slice (some ⟨g, o, none⟩) len cap)).run Tryd.prog w = .ok (.string ⟨l.toArray⟩) w := by
  rw [run_convert_bytes_string w 63 9 5 _ _ _ Tryd.underlying63 Tryd.underlying5 Tryd.underlying9]
  have hload : (loadCells ⟨g, o, none⟩ len).run Tryd.prog w = .ok ((l.map fun c => (c.toNat : Int)).map (Value.int .u8)).toArray w := by
    have := run_loadCells_list (P := Tryd.prog) w ⟨g, o, none⟩ ((l.map fun c => (c.toNat : Int)).map (Value.int .u8)) (fun j v hv => by
      have hadd : (⟨g, o, none⟩ : Addr).add j = ⟨g, o + j, none⟩ := by unfold Addr.add; split <;> simp_all
      rw [hadd]
      have hj : j < len := by
        have := (List.getElem?_eq_some_iff.1 hv).1
        simpa [hl] using this
      rw [h j hj, ← hv]
      simp [List.getElem?_map, List.getElem?_eq_getElem (by omega : j < l.length)])
    simpa [hl] using this
  rw [run_bytesToString w _ _ _ _ hload, fold_push]
  simp
set_option maxHeartbeats 4000000 in
set_option maxRecDepth 8000 in
theorem mark_any (i : Nat) (w : World) (hi : i < 256) :
    Calls Tryd.prog 33 #[.int .i64 (i : Int)] w fun e w' => e = .returned (S (mk i)) ∧ Below w.heap.size w w' := by
  have hs : (i : Int) / 256 = 0 := by omega
  have hs2 : (i : Int) % 256 = (i : Int) := by omega
  have hA : (w.alloc (.cells #[.int .u8 (i : Int), .int .u8 0] 5)).heap[w.heap.size]? = some (.cells #[.int .u8 (i : Int), .int .u8 0] 5 (0, 0)) := heap_alloc_new _ _
  have hn : ((UInt8.ofNat i).toNat : Int) = (i : Int) := by simp; omega
  have hconv := run_text (w.alloc (.cells #[.int .u8 (i : Int), .int .u8 0] 5)) w.heap.size 0 2 2 [UInt8.ofNat i, 0] rfl (by
    intro j hj
    rcases (by omega : j = 0 ∨ j = 1) with rfl | rfl
    · rw [cell_of_row _ _ _ _ 5 (0, 0) hA]
      show some (Value.int .u8 (i : Int)) = some (.int .u8 ((UInt8.ofNat i).toNat : Int))
      rw [hn]
    · rw [cell_of_row _ _ _ _ 5 (0, 0) hA]
      rfl)
  have HB := hide ((Below.refl w.heap.size w).alloc (Nat.le_refl _) (.cells #[.int .u8 (i : Int), .int .u8 0] 5))
  clear hn hA
  go_enter Tryd.func33, Tryd.ntmps33
  go_wp2
  go_ret
  refine ⟨?_, unhide HB⟩
  exact congrArg (fun x => Ending.returned (Value.string x)) (ba_app' [109, 97, 114, 107] [UInt8.ofNat i, 0])
end Go.Proofs.YtknlafgaagimjaaDoor
