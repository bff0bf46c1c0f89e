import Derived.Test.YtbeionikiiccpaaDoorGop
import Derived.Laws.Tables
/- What the sentences of operations come to: loads, stores, allocs, texts. -/
namespace Go.Proofs.YtbeionikiiccpaaDoor
open Go.RowKit
variable {w : World}
theorem s_ld {T : TypeId} (hA : ∀ w, (isAgg T).run Tryd.prog w = .ok false w) {p : Addr} {v : Value} (h : w.cell? p = some v) : (Instr.loadAt T (.pointer (some p))).run Tryd.prog w = .ok v w := by
  simp [Instr.loadAt, go_sem, h, hA]
theorem s_lda {T : TypeId} {n : Nat} (hA : ∀ w, (isAgg T).run Tryd.prog w = .ok true w) (hs : ∀ w, (sizeOf T).run Tryd.prog w = .ok n w) {g o : Nat} (cs : List Value) (hn : cs.length = n) (h : ∀ j v, cs[j]? = some v → w.cell? ⟨g, o + j, none⟩ = some v) : (Instr.loadAt T (.pointer (some ⟨g, o, none⟩))).run Tryd.prog w = .ok (.agg cs.toArray) w := by
  have hl := run_loadCells_list (P := Tryd.prog) w ⟨g, o, none⟩ cs (fun j v hv => by
    have q := h j v hv
    by_cases hj : j = 0
    · subst hj; simpa [Addr.add] using q
    · simpa [Addr.add, hj] using q)
  rw [hn] at hl
  simp [Instr.loadAt, Instr.sureAddr, loadVar, hA, hs, hl, Result.andThen]
/-- The same, of a row that stands in memory. -/
theorem s_ldr {T : TypeId} {n : Nat} (hA : ∀ w, (isAgg T).run Tryd.prog w = .ok true w) (hs : ∀ w, (sizeOf T).run Tryd.prog w = .ok n w) {g o : Nat} {cur : Array Value} {t : TypeId} {f : Nat × Nat} (hg : w.heap[g]? = some (.cells cur t f)) (cs : List Value) (hn : cs.length = n) (h : (cur.toList.drop o).take n = cs) : (Instr.loadAt T (.pointer (some ⟨g, o, none⟩))).run Tryd.prog w = .ok (.agg cs.toArray) w := by
  refine s_lda hA hs cs hn ?_
  intro j v hj
  have hc := cell_of_row w g (o + j) cur t f hg
  rw [hc]
  have hlt : j < n := by rw [← hn]; exact (List.getElem?_eq_some_iff.1 hj).1
  rw [← h, List.getElem?_take, if_pos hlt, List.getElem?_drop] at hj
  simpa using hj
theorem s_sta {T : TypeId} {n : Nat} (hs : ∀ w, (sizeOf T).run Tryd.prog w = .ok n w) {g o : Nat} {cur : Array Value} {t : TypeId} (hg : w.heap[g]? = some (.cells cur t (0, 0))) (v : Value) (hn : v.cells.size = n) (hle : o + n ≤ cur.size) (h1 : ∀ x ∈ v.cells.toList, x.oneCell' = true) : (Instr.storeAt T (.pointer (some ⟨g, o, none⟩)) v).run Tryd.prog w = .ok () (w.setRow g (cur.toList.take o ++ v.cells.toList ++ cur.toList.drop (o + n)).toArray) := by
  have hst := run_storeCells_at Tryd.prog g o t v.cells.toList 0 cur w hg (by simp [hn]; omega) h1
  simp only [Nat.add_zero, Array.length_toList, hn] at hst
  simp [Instr.storeAt, Instr.sureAddr, storeVar, hs, hn, hst, Result.andThen]
theorem s_al {T : TypeId} {z : Value} (hz : ∀ w, (zeroValue T).run Tryd.prog w = .ok z w) : (Instr.alloc T true (.tuple #[])).run Tryd.prog w = .ok (ptr w.heap.size) (w.alloc (.cells z.cells T)) := by
  simp [go_sem, Instr.alloc, hz]
theorem s_cat (x y : Operand) (a b : List UInt8) (hl : a.length + b.length ≤ 1000000000000) : (do eqGuard .add 9 x y (S a) (S b); binOp .add 9 (S a) (S b) : Sem Value).run Tryd.prog w = .ok (S (a ++ b)) w := by
  simp [go_sem, eqGuard]
  rw [if_neg (by omega)]
  have e : (ByteArray.mk a.toArray ++ ByteArray.mk b.toArray) = ⟨(a ++ b).toArray⟩ := by
    apply ByteArray.ext
    simp
  rw [e]
theorem s_to (s : List UInt8) (k : Nat) (hk : k ≤ s.length) : (Instr.sliceAt 9 (S s) none (some (I (k : Int))) none).run Tryd.prog w = .ok (S (s.take k)) w := by
  have h1 : (k : Int) ≤ (s.length : Int) := by omega
  have e : (ByteArray.mk s.toArray).extract 0 k = ⟨(s.take k).toArray⟩ := by
    apply ByteArray.ext
    apply Array.ext'
    simp [ByteArray.data_extract]
  simp [Instr.sliceAt, go_sem, h1, e]
theorem s_from (s : List UInt8) (k : Nat) (hk : k ≤ s.length) : (Instr.sliceAt 9 (S s) (some (I (k : Int))) none none).run Tryd.prog w = .ok (S (s.drop k)) w := by
  have h1 : (k : Int) ≤ (s.length : Int) := by omega
  have e : (ByteArray.mk s.toArray).extract k s.length = ⟨(s.drop k).toArray⟩ := by
    apply ByteArray.ext
    apply Array.ext'
    simp [ByteArray.data_extract]
    exact List.take_of_length_le (by simp)
  simp [Instr.sliceAt, go_sem, h1, e]
theorem s_mid (s : List UInt8) (k m : Nat) (hk : k ≤ m) (hm : m ≤ s.length) : (Instr.sliceAt 9 (S s) (some (I (k : Int))) (some (I (m : Int))) none).run Tryd.prog w = .ok (S ((s.drop k).take (m - k))) w := by
  have h1 : (k : Int) ≤ (m : Int) := by omega
  have h2 : (m : Int) ≤ (s.length : Int) := by omega
  have e : (ByteArray.mk s.toArray).extract k m = ⟨((s.drop k).take (m - k)).toArray⟩ := by
    apply ByteArray.ext
    apply Array.ext'
    simp [ByteArray.data_extract]
  simp [Instr.sliceAt, go_sem, h1, h2, e]
theorem s_bin {p : BinOp} {t : TypeId} {x y : Operand} {a b r : Value} (hg : (eqGuard p t x y a b).run Tryd.prog w = .ok () w) (h : (binOp p t a b).run Tryd.prog w = .ok r w) : (do eqGuard p t x y a b; binOp p t a b : Sem Value).run Tryd.prog w = .ok r w := by
  rw [Sem.run_bind, hg, Result.andThen_ok, h]
end Go.Proofs.YtbeionikiiccpaaDoor
