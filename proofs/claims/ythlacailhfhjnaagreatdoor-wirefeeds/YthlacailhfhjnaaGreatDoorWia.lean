import Derived.Test.YthlacailhfhjnaaGreatDoorZwdd
import Derived.Test.YthlacailhfhjnaaGreatDoorZwde
import Derived.BigQuiet
import Derived.Test.YthlacailhfhjnaaGreatDoorWcp
import Derived.Test.YthlacailhfhjnaaGreatDoorZdetl
import Derived.Test.YthlacailhfhjnaaGreatDoorZwbd
import Derived.Test.YthlacailhfhjnaaGreatDoorZwdo
import Derived.Laws.CopyRow
import Derived.Laws.MakeOwn
import Derived.Lib.BufSteps
namespace Go.Proofs.YthlacailhfhjnaaGreatDoor
open Go.RowKit Go.Lib
/-- The mark of the i-th list. -/
def mk (i : Nat) : Fl := ([], [109, 97, 114, 107, UInt8.ofNat i, UInt8.ofNat (i / 256), UInt8.ofNat (i / 65536)])
theorem ba_app2 (x y : Bs) : (ByteArray.mk x.toArray ++ ByteArray.mk y.toArray) = ⟨(x ++ y).toArray⟩ := by
  apply ByteArray.ext
  simp [ByteArray.data_append]
theorem loadVar35 (b : Nat) (x y : Value) (W : World) (h0 : W.cell? ⟨b, 0, none⟩ = some x) (h1 : W.cell? ⟨b, 1, none⟩ = some y) : (loadVar 35 ⟨b, 0, none⟩).run Tryz.prog W = .ok (.agg #[x, y]) W := by
  have hl : (loadCells ⟨b, 0, none⟩ 2).run Tryz.prog W = .ok #[x, y] W := by
    have := run_loadCells_list (P := Tryz.prog) W ⟨b, 0, none⟩ [x, y] (fun j v hv => by
      match j, hv with
      | 0, hv => simp at hv; subst hv; simpa [Addr.add] using h0
      | 1, hv => simp at hv; subst hv; simpa [Addr.add] using h1
      | (j + 2), hv => simp at hv)
    simpa using this
  simp [loadVar, Tryz.isAgg35, Tryz.sizeOf35, hl, Result.andThen]
theorem results_c1 {fn : Func} {p : Tmp} (h : fn.results = #[.cell p 35]) (tmps : Array Value) (w : World) (b : Nat) (n v : Value) (ht : tmps.getD p undef = .pointer (some ⟨b, 0, none⟩)) (h0 : w.cell? ⟨b, 0, none⟩ = some n) (h1 : w.cell? ⟨b, 1, none⟩ = some v) :
    (results fn tmps).run Tryz.prog w = .ok (.agg #[n, v]) w := by
  have ht' : tmps[p]?.getD undef = .pointer (some ⟨b, 0, none⟩) := by simpa using ht
  simp only [results, h]
  simp [ht', asAddr, loadVar35 b n v w h0 h1]
end Go.Proofs.YthlacailhfhjnaaGreatDoor
