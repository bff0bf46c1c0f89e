import Derived.Test.YtdncebdlhoogcaaHash
namespace Go.Proofs.Ytdncebdlhoogcaa
open Go.RowKit
open Sha
/-- But for one block, what was there is as it was. -/
structure Only (b : Nat) (w w' : World) : Prop where
  os : w'.os = w.os
  tape : w'.tape = w.tape
  output : w'.output = w.output
  size : w.heap.size ≤ w'.heap.size
  block : ∀ k, k < w.heap.size → k ≠ b → w'.heap[k]? = w.heap[k]?
theorem Only.refl (b : Nat) (w : World) : Only b w w := ⟨rfl, rfl, rfl, Nat.le_refl _, fun _ _ _ => rfl⟩
theorem Only.trans {b : Nat} {w1 w2 w3 : World} (h : Only b w1 w2) (k : Only b w2 w3) : Only b w1 w3 :=
  ⟨k.os.trans h.os, k.tape.trans h.tape, k.output.trans h.output, Nat.le_trans h.size k.size, fun i hi hn => (k.block i (Nat.lt_of_lt_of_le hi h.size) hn).trans (h.block i hi hn)⟩
theorem Only.of_below {b : Nat} {w w' : World} (h : Below w.heap.size w w') : Only b w w' := ⟨h.os, h.tape, h.output, h.size, fun i hi _ => h.block i hi⟩
theorem Only.setRow {b : Nat} (w : World) (cs : Array Value) : Only b w (w.setRow b cs) :=
  ⟨rfl, rfl, rfl, by simp, fun k _ hn => Go.setRow_other w b k cs hn⟩
theorem Only.setCell {b : Nat} (w : World) (j : Nat) (v : Value) : Only b w (w.setCell ⟨b, j, none⟩ v) :=
  ⟨rfl, rfl, rfl, by simp [World.setCell], fun k _ hn => Below.heap_setCell w ⟨b, j, none⟩ v k hn⟩
theorem Only.drewN {b : Nat} {w w' : World} (h : Only b w w') (n : Nat) : Only b w (w'.drewN n) := ⟨h.os, h.tape, h.output, h.size, h.block⟩
theorem Only.row {b g : Nat} {w w' : World} {cs : Array Value} {t : TypeId} (h : Only b w w') (hr : Row w g cs t) (hn : g ≠ b) : Row w' g cs t := (h.block g hr.lt hn).trans hr
def strLen : Value → Nat
  | .string s => s.size
  | _ => 0
theorem run_copy_str (w : World) (ty : TypeId) (g o dLen dCap : Nat) (cur : Array Value) (t : TypeId) (s : List UInt8)
    (hg : Row w g cur t) (hfit : o + min s.length dLen ≤ cur.size) :
    (Builtin.copy_ #[33, 9] ty #[.slice (some ⟨g, o, none⟩) dLen dCap, .string ⟨s.toArray⟩]).run Try.prog w =
      .ok (goInt ((min s.length dLen : Nat) : Int)) (w.setRow g (cur.toList.take o ++ (s.take (min s.length dLen)).map B ++ cur.toList.drop (o + ((s.take (min s.length dLen)).map B).length)).toArray) := by
  have hlen : ((s.take (min s.length dLen)).map B).length = min s.length dLen := by simp
  have hst := run_storeCells_at Try.prog g o t ((s.take (min s.length dLen)).map B) 0 cur w hg (by rw [hlen]; simpa using hfit) (by intro v hv; simp only [List.mem_map] at hv; obtain ⟨c, _, rfl⟩ := hv; rfl)
  have hmap : s.map (fun b => Value.int .u8 (b.toNat : Int)) = s.map B := rfl
  have hi : (Try.prog.info? 5).map (·.size) = some 1 := by kernel_rfl
  cases hq : Try.prog.info? 5 with
  | none => simp [hq] at hi
  | some i =>
    simp only [List.length_map, List.length_take] at hst ⊢
    simp [Builtin.copy_, run_underlying Try.underlying33, Builtin.lenOf, Builtin.firstCells, sizeOf, typeInfo, ByteArray.size, hq]
    rw [hmap, ← List.map_take, show s.length.min dLen = min s.length dLen from rfl, hst]
    simp
theorem hc_s (h : Ha) (j : Nat) (v : Value) (hv : (h.s.l.map U)[j]? = some v) : (hc h)[j]? = some v := by
  have hj : j < (h.s.l.map U).length := (List.getElem?_eq_some_iff.1 hv).1
  unfold hc
  rw [List.getElem?_toArray, List.getElem?_append_left hj]
  exact hv
theorem hc_t (h : Ha) (j : Nat) (v : Value) (hv : (h.t.map B)[j]? = some v) : (hc h)[8 + j]? = some v := by
  have hj : j < (h.t.map B).length := (List.getElem?_eq_some_iff.1 hv).1
  have e8 : (h.s.l.map U).length = 8 := rfl
  unfold hc
  rw [List.getElem?_toArray, List.getElem?_append_right (by omega), e8, Nat.add_sub_cancel_left, List.getElem?_append_left hj]
  exact hv
/-- What the region that mixes reads and writes. -/
structure HR5 (b : Nat) (h : Ha) (w : World) : Prop where
  row : Row w b (hc h) 70
theorem HR5.s {b : Nat} {h : Ha} {w : World} (x : HR5 b h w) : w.rangeAt b 0 (h.s.l.map U) := fun j v hv => by
  rw [Nat.zero_add, x.row.cell]; exact hc_s h j v hv
theorem HR5.t {b : Nat} {h : Ha} {w : World} (x : HR5 b h w) : w.rangeAt b 8 (h.t.map B) := fun j v hv => by
  rw [x.row.cell]; exact hc_t h j v hv
theorem HR5.th {b : Nat} {h : Ha} {w : World} (x : HR5 b h w) (ht : h.t.length = 64) : w.there b 0 8 := fun j hj => by
  refine ⟨?_, by rw [Nat.zero_add]; exact x.row.frozen j⟩
  rw [Nat.zero_add, x.row.cell]
  have : j < (hc h).size := by rw [hc_size h ht]; omega
  simp [this]
theorem run_tail (w : World) (b r : Nat) (hr : r < 64) :
    (Instr.sliceAt 68 (.pointer (some ⟨b, 8, none⟩)) (some (.int .i64 r)) none none).run Try.prog w = .ok (.slice (some ⟨b, 8 + r, none⟩) (64 - r) (64 - r)) w := by
  have hs5 := Try.sizeOf5
  have hne : ¬ 64 = r := by omega
  have hadd : (⟨b, 8, none⟩ : Addr).add r = ⟨b, 8 + r, none⟩ := Addr.add_mid b 8 r
  have hb := run_sliceBound (P := Try.prog) w .i64 (r : Int) 64 .sliceB (by omega) (by omega)
  simp [Instr.sliceAt, Instr.sureAddr, run_underlying Try.underlying68, Instr.sliceBounds, hs5, hb, hne, hadd]
end Go.Proofs.Ytdncebdlhoogcaa
