import Derived.Test.YtjopnhhdemfniaaGreatDoorZphd
import Derived.Test.YtjopnhhdemfniaaGreatDoorZhnu
import Derived.Test.YtjopnhhdemfniaaGreatDoorZdetl
namespace Go.Proofs.YtjopnhhdemfniaaGreatDoor
open Go.RowKit
set_option maxHeartbeats 8000000
set_option maxRecDepth 8000
theorem lv_row {T : TypeId} {n : Nat} (hA : ∀ w, (isAgg T).run Tryz.prog w = .ok true w) (hs : ∀ w, (sizeOf T).run Tryz.prog w = .ok n w) {w : World} {g : Nat} {cs : Array Value} {t : TypeId} {f : Nat × Nat} (hg : w.heap[g]? = some (.cells cs t f)) (hn : cs.size = n) : (loadVar T ⟨g, 0, none⟩).run Tryz.prog w = .ok (.agg cs) w := by
  have h := s_ldr hA hs (o := 0) hg cs.toList (by simpa using hn) (by rw [List.drop_zero, List.take_of_length_le (by simp [hn])])
  have e : (Instr.loadAt T (.pointer (some ⟨g, 0, none⟩))).run Tryz.prog w = (loadVar T ⟨g, 0, none⟩).run Tryz.prog w := by simp [Instr.loadAt, Instr.sureAddr]
  rw [← e, h]
end Go.Proofs.YtjopnhhdemfniaaGreatDoor
