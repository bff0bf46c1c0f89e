import Derived.Test.YtjopnhhdemfniaaGreatDoorZpja
import Derived.Test.YtjopnhhdemfniaaGreatDoorZdetl
namespace Go.Proofs.YtjopnhhdemfniaaGreatDoor
open Go.RowKit
set_option maxHeartbeats 8000000
set_option maxRecDepth 8000
theorem lv_row {T : TypeId} {n : Nat} (hA : ∀ w, (isAgg T).run Tryz.prog w = .ok true w) (hs : ∀ w, (sizeOf T).run Tryz.prog w = .ok n w) {w : World} {g : Nat} {cs : Array Value} {t : TypeId} {f : Nat × Nat} (hg : w.heap[g]? = some (.cells cs t f)) (hn : cs.size = n) : (loadVar T ⟨g, 0, none⟩).run Tryz.prog w = .ok (.agg cs) w := by
  have h := s_ldr hA hs (o := 0) hg cs.toList (by simpa using hn) (by rw [List.drop_zero, List.take_of_length_le (by simp [hn])])
  have e : (Instr.loadAt T (.pointer (some ⟨g, 0, none⟩))).run Tryz.prog w = (loadVar T ⟨g, 0, none⟩).run Tryz.prog w := by simp [Instr.loadAt, Instr.sureAddr]
  rw [← e, h]
/-- A struct in its cell and a word come out. -/
theorem out2c {T : TypeId} {n : Nat} (hA : ∀ w, (isAgg T).run Tryz.prog w = .ok true w) (hs : ∀ w, (sizeOf T).run Tryz.prog w = .ok n w) {fn : Func} {p q : Tmp} {W : World} {a : Act} {Z : Nat} {cs : Array Value} {t : TypeId} {v : Value} {Post : Ending → World → Prop} (hf : fn.results = #[.cell p T, .tmp q]) (hd : a.defers = []) (ht : a.tmps.getD p undef = .pointer (some ⟨Z, 0, none⟩)) (hv : a.tmps.getD q undef = v) (h : W.heap[Z]? = some (.cells cs t (0, 0))) (hn : cs.size = n) (hp : Post (.returned (.tuple #[.agg cs, v])) W) : bodyPost Tryz.prog fn Post .ret a W := by
  subst hv
  refine bodyPost_ret ?_ hd hp
  have ht' : a.tmps[p]?.getD undef = .pointer (some ⟨Z, 0, none⟩) := by simpa using ht
  simp only [results, hf]
  simp [ht', asAddr, lv_row hA hs h hn]
end Go.Proofs.YtjopnhhdemfniaaGreatDoor
