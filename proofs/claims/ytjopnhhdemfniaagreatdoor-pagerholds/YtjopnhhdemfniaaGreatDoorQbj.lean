import Derived.Test.YtjopnhhdemfniaaGreatDoorZqba
import Derived.Test.YtjopnhhdemfniaaGreatDoorZqbe
import Derived.Test.YtjopnhhdemfniaaGreatDoorZpic
import Derived.Test.YtjopnhhdemfniaaGreatDoorZpme
import Derived.Test.YtjopnhhdemfniaaGreatDoorRgqb
/- What the law's holds asks of the pager. -/
namespace Go.Proofs.YtjopnhhdemfniaaGreatDoor
open Go.RowKit
set_option maxHeartbeats 4000000
theorem s_x27 (g o n cap k : Nat) (hk : k < n) {w : World} : (Instr.indexAt 27 (.slice (some ⟨g, o, none⟩) n cap) (.int .i64 (k : Int))).run Tryz.prog w = .ok (.pointer (some ⟨g, o + k * 5, none⟩)) w := by
  have h1 : (k : Int) < (n : Int) := by omega
  have u := Tryz.underlying27
  have z := Tryz.sizeOf24
  simp [go_sem, u, z, h1]
theorem s_x90 (g o n cap k : Nat) (hk : k < n) {w : World} : (Instr.indexAt 90 (.slice (some ⟨g, o, none⟩) n cap) (.int .i64 (k : Int))).run Tryz.prog w = .ok (.pointer (some ⟨g, o + k * 2, none⟩)) w := by
  have h1 : (k : Int) < (n : Int) := by omega
  have u := Tryz.underlying90
  have z := Tryz.sizeOf101
  simp [go_sem, u, z, h1]
theorem s_l24 {w : World} {g o : Nat} {v0 v1 v2 v3 v4 : Value} (d0 : w.cell? ⟨g, o, none⟩ = some v0) (d1 : w.cell? ⟨g, o + 1, none⟩ = some v1) (d2 : w.cell? ⟨g, o + 2, none⟩ = some v2) (d3 : w.cell? ⟨g, o + 3, none⟩ = some v3) (d4 : w.cell? ⟨g, o + 4, none⟩ = some v4) : (Instr.loadAt 24 (.pointer (some ⟨g, o, none⟩))).run Tryz.prog w = .ok (.agg #[v0, v1, v2, v3, v4]) w := by
  have u := Tryz.isAgg24
  have z := Tryz.sizeOf24
  simp [Instr.loadAt, go_sem, u, z, loadCells, loadCellsFrom, d0, d1, d2, d3, d4]
variable {m : Nat} {gen root : Int} {ps : List Pg} {l : List Pn} {last : List Bs} {p : Pr} {P D : Nat} {vw vl vu : Value} {al : Int}
theorem Hds.read (h : Hds m gen root ps l last p) {W : World} (hD : PD P D (Lv [] last al) p vw vl vu W) (x : Pg) (hx : x ∈ ps ∨ ∃ y ∈ l, x ∈ y.2) :
    Calls Tryz.prog 53 #[ptr P, I x.number] W fun e w' => ∃ q cap, e = .returned (.tuple #[pga x q cap, I 0]) ∧ Ins w' q x.links.length x.links ∧ PD P D (Lv [] last al) p vw vl vu w' ∧ Only (fun k => k = P) W w' := by
  have hb := (h.pg x hx).2.2.1
  have hm := h.m8.2
  have := readP_any hD x.number (by omega)
  rw [h.rd al x hx, h.ask] at this
  refine this.mono ?_
  rintro e w' ⟨⟨q, cap, rfl, r, _, o⟩, hp⟩
  exact ⟨q, cap, rfl, ins_of r, hp, o⟩
theorem Hds.read0 (h : Hds m gen root ps l last p) {W : World} (hD : PD P D (Lv [] last al) p vw vl vu W) (n : Nat) (hn : n < m) (hu : usd ps l n = false) :
    Calls Tryz.prog 53 #[ptr P, I (n : Int)] W fun e w' => ∃ q cap, e = .returned (.tuple #[.agg #[I 0, I 0, I 0, .slice q 0 cap, S []], I 93]) ∧ PD P D (Lv [] last al) p vw vl vu w' ∧ Only (fun k => k = P) W w' := by
  have hm := h.m8.2
  have := readP_any hD (n : Int) (by omega)
  rw [h.rd0 al hn hu, h.ask] at this
  refine this.mono ?_
  rintro e w' ⟨⟨q, cap, rfl, r, _, o⟩, hp⟩
  exact ⟨q, cap, rfl, hp, o⟩
theorem Hds.nexts (h : Hds m gen root ps l last p) {W : World} (hD : PD P D (Lv [] last al) p vw vl vu W) (k : Nat) (hk : k ≤ 1000000) :
    Calls Tryz.prog 48 #[ptr P, I (k : Int)] W fun e w' => ∃ V, e = .returned (.tuple #[V, I (if (fre m ps l).length < k then ([], 92) else ((fre m ps l).take k, (0 : Int))).2]) ∧ InsOut (if (fre m ps l).length < k then ([], 92) else ((fre m ps l).take k, (0 : Int))).1 W V w' ∧ PD P D (Lv [] last al) p vw vl vu w' ∧ Only (fun k => k = P) W w' := by
  have := next_any hD (k : Int) (by omega)
  rw [h.nxt al k, if_neg (show ¬ (k : Int) < 0 by omega), h.ask] at this
  exact this
theorem Hds.links (h : Hds m gen root ps l last p) (x : Pg) (hx : x ∈ ps ∨ ∃ y ∈ l, x ∈ y.2) : x.links.length ≤ 1000 := by
  have := (h.pg x hx).1
  unfold Pg.may Pg.fresh at this
  simp at this
  omega
end Go.Proofs.YtjopnhhdemfniaaGreatDoor
