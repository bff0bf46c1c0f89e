import Derived.Test.YtjopnhhdemfniaaGreatDoorZdetl
import Derived.Test.YtjopnhhdemfniaaGreatDoorPjm
import Derived.Test.YtjopnhhdemfniaaGreatDoorZpme
namespace Go.Proofs.YtjopnhhdemfniaaGreatDoor
open Go.RowKit
set_option maxHeartbeats 8000000
set_option maxRecDepth 8000
/-- A struct in its cell comes out. -/
theorem out1c {T : TypeId} {n : Nat} (hA : ∀ w, (isAgg T).run Tryz.prog w = .ok true w) (hs : ∀ w, (sizeOf T).run Tryz.prog w = .ok n w) {fn : Func} {p : Tmp} {W : World} {a : Act} {Z : Nat} {cs : Array Value} {t : TypeId} {Post : Ending → World → Prop} (hf : fn.results = #[.cell p T]) (hd : a.defers = []) (ht : a.tmps.getD p undef = .pointer (some ⟨Z, 0, none⟩)) (h : W.heap[Z]? = some (.cells cs t (0, 0))) (hn : cs.size = n) (hp : Post (.returned (.agg cs)) W) : bodyPost Tryz.prog fn Post .ret a W := by
  refine bodyPost_ret ?_ hd hp
  have ht' : a.tmps[p]?.getD undef = .pointer (some ⟨Z, 0, none⟩) := by simpa using ht
  simp only [results, hf]
  simp [ht', asAddr, lv_row hA hs h hn]
end Go.Proofs.YtjopnhhdemfniaaGreatDoor
