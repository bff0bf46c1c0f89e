import Derived.Test.YtbmcaejbfjpmiaaDoorRpb
import Derived.Test.YtbmcaejbfjpmiaaDoorBlk
namespace Go.Proofs.YtbmcaejbfjpmiaaDoor
open Go.RowKit Go.Lib
def mk (i : Nat) : Fl := ([109, 97, 114, 107], [UInt8.ofNat i, 0])
theorem results_c1 {fn : Func} {p : Tmp} (h : fn.results = #[.cell p 44]) (tmps : Array Value) (w : World) (b : Nat) (n v : Value) (ht : tmps.getD p undef = .pointer (some ⟨b, 0, none⟩)) (h0 : w.cell? ⟨b, 0, none⟩ = some n) (h1 : w.cell? ⟨b, 1, none⟩ = some v) :
    (results fn tmps).run Tryd.prog w = .ok (.agg #[n, v]) w := by
  have ht' : tmps[p]?.getD undef = .pointer (some ⟨b, 0, none⟩) := by simpa using ht
  simp only [results, h]
  simp [ht', asAddr, loadVar44 b n v w h0 h1]
set_option maxHeartbeats 4000000 in
set_option maxRecDepth 8000 in
theorem mark_any (i : Nat) (w : World) (hi : i < 256) :
    Calls Tryd.prog 33 #[.int .i64 (i : Int)] w fun e w' => e = .returned (.agg #[S (mk i).1, S (mk i).2]) ∧ Below w.heap.size w w' := by
  have hs : (i : Int) / 256 = 0 := by omega
  have hs2 : (i : Int) % 256 = (i : Int) := by omega
  have hA : ((w.alloc (.cells #[S [], S []] 44)).alloc (.cells #[.int .u8 (i : Int), .int .u8 0] 5)).heap[w.heap.size + 1]? = some (.cells #[.int .u8 (i : Int), .int .u8 0] 5 (0, 0)) := by
    show (((w.heap.push (Obj.cells #[S [], S []] 44)).push _)[w.heap.size + 1]?) = _
    have e : w.heap.size + 1 = (w.heap.push (Obj.cells #[S [], S []] 44)).size := by simp
    rw [e, Array.getElem?_push_size]
  have hn : ((UInt8.ofNat i).toNat : Int) = (i : Int) := by simp; omega
  have hconv := run_text ((w.alloc (.cells #[S [], S []] 44)).alloc (.cells #[.int .u8 (i : Int), .int .u8 0] 5)) (w.heap.size + 1) 0 2 2 [UInt8.ofNat i, 0] rfl (by
    intro j hj
    rcases (by omega : j = 0 ∨ j = 1) with rfl | rfl
    · rw [cell_of_heap hA]
      show some (Value.int .u8 (i : Int)) = some (.int .u8 ((UInt8.ofNat i).toNat : Int))
      rw [hn]
    · rw [cell_of_heap hA]
      rfl)
  have HA1 := hide (show ((w.alloc (.cells #[S (mk i).1, S (mk i).2] 44)).alloc (.cells #[.int .u8 (i : Int), .int .u8 0] 5)).heap[w.heap.size]? = some (.cells #[S (mk i).1, S (mk i).2] 44 (0, 0)) by
    show (((w.heap.push _).push _)[w.heap.size]?) = _
    rw [Array.getElem?_push_lt (by simp)]
    simp)
  have HB := hide (((Below.refl w.heap.size w).alloc (Nat.le_refl _) (.cells #[S (mk i).1, S (mk i).2] 44)).alloc (by simp) (.cells #[.int .u8 (i : Int), .int .u8 0] 5))
  clear hn hA
  go_enter Tryd.func33, Tryd.ntmps33
  go_wp2
  refine bodyPost_ret (v := .agg #[S (mk i).1, S (mk i).2]) (results_c1 (p := 2) rfl _ _ w.heap.size _ _ rfl ?_ ?_) rfl ⟨rfl, unhide HB⟩
  · exact (cell_of_heap (unhide HA1) 0).trans rfl
  · exact (cell_of_heap (unhide HA1) 1).trans rfl
end Go.Proofs.YtbmcaejbfjpmiaaDoor
