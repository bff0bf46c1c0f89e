import Derived.Test.YtjopnhhdemfniaaGreatDoorZqba
import Derived.Test.YtjopnhhdemfniaaGreatDoorZqbe
import Derived.Test.YtjopnhhdemfniaaGreatDoorZpic
import Derived.Test.YtjopnhhdemfniaaGreatDoorZpme
import Derived.Test.YtjopnhhdemfniaaGreatDoorZrgpn
/- What the law's holds asks of the pager. -/
namespace Go.Proofs.YtjopnhhdemfniaaGreatDoor
open Go.RowKit
set_option maxHeartbeats 4000000
theorem s_x27 (g o n cap k : Nat) (hk : k < n) {w : World} : (Instr.indexAt 27 (.slice (some ⟨g, o, none⟩) n cap) (.int .i64 (k : Int))).run Tryz.prog w = .ok (.pointer (some ⟨g, o + k * 5, none⟩)) w := by
  have h1 : (k : Int) < (n : Int) := by omega
  have u := Tryz.underlying27
  have z := Tryz.sizeOf24
  simp [go_sem, u, z, h1]
theorem s_l24 {w : World} {g o : Nat} {v0 v1 v2 v3 v4 : Value} (d0 : w.cell? ⟨g, o, none⟩ = some v0) (d1 : w.cell? ⟨g, o + 1, none⟩ = some v1) (d2 : w.cell? ⟨g, o + 2, none⟩ = some v2) (d3 : w.cell? ⟨g, o + 3, none⟩ = some v3) (d4 : w.cell? ⟨g, o + 4, none⟩ = some v4) : (Instr.loadAt 24 (.pointer (some ⟨g, o, none⟩))).run Tryz.prog w = .ok (.agg #[v0, v1, v2, v3, v4]) w := by
  have u := Tryz.isAgg24
  have z := Tryz.sizeOf24
  simp [Instr.loadAt, go_sem, u, z, loadCells, loadCellsFrom, d0, d1, d2, d3, d4]
variable {m : Nat} {gen root : Int} {ps : List Pg} {l : List Pn} {last : List Bs} {p : Pr} {P D : Nat} {vw vl vu : Value} {al : Int}
theorem Hds.links (h : Hds m gen root ps l last p) (x : Pg) (hx : x ∈ ps ∨ ∃ y ∈ l, x ∈ y.2) : x.links.length ≤ 1000 := by
  have := (h.pg x hx).1
  unfold Pg.may Pg.fresh at this
  simp at this
  omega
end Go.Proofs.YtjopnhhdemfniaaGreatDoor
