import Derived.Test.YtbeionikiiccpaaDoorHmxb
import Derived.Test.YtbeionikiiccpaaDoorHinv
namespace Go.Proofs.YtbeionikiiccpaaDoor
open Go.RowKit
open Sha
set_option maxRecDepth 8000
def spl (t : List UInt8) (r : Nat) (l : List UInt8) : List UInt8 := t.take r ++ l ++ t.drop (r + l.length)
theorem spl_len (t : List UInt8) (r : Nat) (l : List UInt8) (h : r + l.length ≤ t.length) : (spl t r l).length = t.length := by
  simp [spl]; omega
theorem spl_nil (t : List UInt8) (r : Nat) : spl t r [] = t := by simp [spl]
theorem spl_cons (t : List UInt8) (r : Nat) (c : UInt8) (l : List UInt8) (h : r + (l.length + 1) ≤ t.length) : spl (t.set r c) (r + 1) l = spl t r (c :: l) := by
  unfold spl
  have e1 : (t.set r c).take (r + 1) = t.take r ++ [c] := by
    rw [List.take_succ_eq_append_getElem (by simp; omega), List.take_set_of_le (Nat.le_refl _)]
    simp
  have e2 : (t.set r c).drop (r + 1 + l.length) = t.drop (r + (c :: l).length) := by
    rw [List.drop_set_of_lt (by omega)]
    simp [Nat.add_assoc, Nat.add_comm 1]
  rw [e1, e2]
  simp
/-- A part that does not go beyond the block. -/
theorem took_chunk (l : List UInt8) : ∀ (h : Ha), h.t.length = 64 → h.n % 64 + l.length ≤ 64 → l ≠ [] →
    took h l = if (h.n + l.length) % 64 = 0 then ⟨mx h.s (spl h.t (h.n % 64) l), spl h.t (h.n % 64) l, h.n + l.length⟩ else ⟨h.s, spl h.t (h.n % 64) l, h.n + l.length⟩ := by
  induction l with
  | nil => intro h _ _ hne; exact absurd rfl hne
  | cons c l ih =>
    intro h ht hle _
    by_cases hl : l = []
    · subst hl
      have e : spl h.t (h.n % 64) [c] = h.t.set (h.n % 64) c := by
        rw [← spl_cons h.t (h.n % 64) c [] (by simp; omega), spl_nil]
      rw [e]
      simp only [took, List.foldl_cons, List.foldl_nil, put, List.length_singleton]
    · have hlp : 0 < l.length := List.length_pos_iff.2 hl
      simp only [List.length_cons] at hle
      have hne : ¬ (h.n + 1) % 64 = 0 := by omega
      have ep : put h c = ⟨h.s, h.t.set (h.n % 64) c, h.n + 1⟩ := by rw [put, if_neg hne]
      have hm : (h.n + 1) % 64 = h.n % 64 + 1 := by omega
      have := ih ⟨h.s, h.t.set (h.n % 64) c, h.n + 1⟩ (by simpa using ht) (by simp only; omega) hl
      rw [show took h (c :: l) = took (put h c) l from rfl, ep, this]
      simp only [hm]
      rw [spl_cons h.t (h.n % 64) c l (by omega)]
      simp only [List.length_cons, show h.n + 1 + l.length = h.n + (l.length + 1) from by omega]
theorem took_append (h : Ha) (a b : List UInt8) : took h (a ++ b) = took (took h a) b := by simp [took]
theorem took_n (l : List UInt8) : ∀ h : Ha, (took h l).n = h.n + l.length := by
  induction l with
  | nil => intro h; rfl
  | cons c l ih =>
    intro h
    rw [show took h (c :: l) = took (put h c) l from rfl, ih]
    have : (put h c).n = h.n + 1 := by unfold put; split <;> rfl
    rw [this, List.length_cons]; omega
theorem took_t (l : List UInt8) : ∀ h : Ha, (took h l).t.length = h.t.length := by
  induction l with
  | nil => intro h; rfl
  | cons c l ih =>
    intro h
    rw [show took h (c :: l) = took (put h c) l from rfl, ih]
    unfold put; split <;> simp
/-- A hasher's cells. -/
def hc (h : Ha) : Array Value := (h.s.l.map U ++ (h.t.map B ++ [Value.int .i64 h.n])).toArray
theorem hc_size (h : Ha) (ht : h.t.length = 64) : (hc h).size = 73 := by simp [hc, ht, St.l]
theorem hc_n (h : Ha) (ht : h.t.length = 64) : (hc h)[72]? = some (.int .i64 h.n) := by
  simp [hc, St.l, ht]
theorem hc_toList (h : Ha) : (hc h).toList = h.s.l.map U ++ (h.t.map B ++ [Value.int .i64 h.n]) := by simp [hc]
theorem hc_copy (h : Ha) (r : Nat) (l : List UInt8) (ht : h.t.length = 64) (hr : r + l.length ≤ 64) :
    ((hc h).toList.take (8 + r) ++ l.map B ++ (hc h).toList.drop (8 + r + (l.map B).length)).toArray = hc ⟨h.s, spl h.t r l, h.n⟩ := by
  rw [hc_toList]
  have e8 : (h.s.l.map U).length = 8 := rfl
  have et : (h.t.map B).length = 64 := by simpa using ht
  have a1 : (h.s.l.map U ++ (h.t.map B ++ [Value.int .i64 h.n])).take (8 + r) = h.s.l.map U ++ (h.t.map B).take r := by
    rw [← e8, List.take_append, List.take_of_length_le (by omega), Nat.add_sub_cancel_left, List.take_append_of_le_length (by omega)]
  have a2 : (h.s.l.map U ++ (h.t.map B ++ [Value.int .i64 h.n])).drop (8 + r + (l.map B).length) = (h.t.map B).drop (r + l.length) ++ [Value.int .i64 h.n] := by
    rw [List.length_map, Nat.add_assoc, ← e8, List.drop_append, List.drop_eq_nil_of_le (by omega), List.nil_append, Nat.add_sub_cancel_left, List.drop_append_of_le_length (by omega)]
  rw [a1, a2]
  simp [hc, spl, List.map_take, List.map_drop]
theorem hc_setn (h : Ha) (n : Nat) (ht : h.t.length = 64) : (hc h).setIfInBounds 72 (.int .i64 (n : Int)) = hc ⟨h.s, h.t, n⟩ := by
  unfold hc
  simp only [List.setIfInBounds_toArray]
  congr 1
  have e8 : (h.s.l.map U).length = 8 := rfl
  have et : (h.t.map B).length = 64 := by simpa using ht
  rw [List.set_append_right _ _ (by omega), e8, List.set_append_right _ _ (by omega), et]
  rfl
end Go.Proofs.YtbeionikiiccpaaDoor
namespace Go.Proofs.YtbeionikiiccpaaDoor
open Go.RowKit
open Sha
set_option maxRecDepth 8000
/-- But for one block, what was there is as it was. -/
structure OnlyH (b : Nat) (w w' : World) : Prop where
  os : w'.os = w.os
  tape : w'.tape = w.tape
  output : w'.output = w.output
  size : w.heap.size ≤ w'.heap.size
  block : ∀ k, k < w.heap.size → k ≠ b → w'.heap[k]? = w.heap[k]?
theorem OnlyH.refl (b : Nat) (w : World) : OnlyH b w w := ⟨rfl, rfl, rfl, Nat.le_refl _, fun _ _ _ => rfl⟩
theorem OnlyH.trans {b : Nat} {w1 w2 w3 : World} (h : OnlyH b w1 w2) (k : OnlyH b w2 w3) : OnlyH b w1 w3 :=
  ⟨k.os.trans h.os, k.tape.trans h.tape, k.output.trans h.output, Nat.le_trans h.size k.size, fun i hi hn => (k.block i (Nat.lt_of_lt_of_le hi h.size) hn).trans (h.block i hi hn)⟩
theorem OnlyH.of_below {b : Nat} {w w' : World} (h : Below w.heap.size w w') : OnlyH b w w' := ⟨h.os, h.tape, h.output, h.size, fun i hi _ => h.block i hi⟩
theorem OnlyH.setRow {b : Nat} (w : World) (cs : Array Value) : OnlyH b w (w.setRow b cs) :=
  ⟨rfl, rfl, rfl, by simp, fun k _ hn => Go.setRow_other w b k cs hn⟩
theorem OnlyH.setCell {b : Nat} (w : World) (j : Nat) (v : Value) : OnlyH b w (w.setCell ⟨b, j, none⟩ v) :=
  ⟨rfl, rfl, rfl, by simp [World.setCell], fun k _ hn => Below.heap_setCell w ⟨b, j, none⟩ v k hn⟩
theorem OnlyH.drewN {b : Nat} {w w' : World} (h : OnlyH b w w') (n : Nat) : OnlyH b w (w'.drewN n) := ⟨h.os, h.tape, h.output, h.size, h.block⟩
theorem OnlyH.row {b g : Nat} {w w' : World} {cs : Array Value} {t : TypeId} (h : OnlyH b w w') (hr : Row w g cs t) (hn : g ≠ b) : Row w' g cs t := (h.block g hr.lt hn).trans hr
def strLen : Value → Nat
  | .string s => s.size
  | _ => 0
theorem run_copy_str (w : World) (ty : TypeId) (g o dLen dCap : Nat) (cur : Array Value) (t : TypeId) (s : List UInt8)
    (hg : Row w g cur t) (hfit : o + min s.length dLen ≤ cur.size) :
    (Builtin.copy_ #[33, 9] ty #[.slice (some ⟨g, o, none⟩) dLen dCap, .string ⟨s.toArray⟩]).run Tryd.prog w =
      .ok (goInt ((min s.length dLen : Nat) : Int)) (w.setRow g (cur.toList.take o ++ (s.take (min s.length dLen)).map B ++ cur.toList.drop (o + ((s.take (min s.length dLen)).map B).length)).toArray) := by
  have hlen : ((s.take (min s.length dLen)).map B).length = min s.length dLen := by simp
  have hst := run_storeCells_at Tryd.prog g o t ((s.take (min s.length dLen)).map B) 0 cur w hg (by rw [hlen]; simpa using hfit) (by intro v hv; simp only [List.mem_map] at hv; obtain ⟨c, _, rfl⟩ := hv; rfl)
  have hmap : s.map (fun b => Value.int .u8 (b.toNat : Int)) = s.map B := rfl
  have hi : (Tryd.prog.info? 5).map (·.size) = some 1 := by kernel_rfl
  cases hq : Tryd.prog.info? 5 with
  | none => simp [hq] at hi
  | some i =>
    simp only [List.length_map, List.length_take] at hst ⊢
    simp [Builtin.copy_, run_underlying Tryd.underlying33, Builtin.lenOf, Builtin.firstCells, sizeOf, typeInfo, ByteArray.size, hq]
    rw [hmap, ← List.map_take, show s.length.min dLen = min s.length dLen from rfl, hst]
    simp
theorem hc_s (h : Ha) (j : Nat) (v : Value) (hv : (h.s.l.map U)[j]? = some v) : (hc h)[j]? = some v := by
  have hj : j < (h.s.l.map U).length := (List.getElem?_eq_some_iff.1 hv).1
  unfold hc
  rw [List.getElem?_toArray, List.getElem?_append_left hj]
  exact hv
theorem hc_t (h : Ha) (j : Nat) (v : Value) (hv : (h.t.map B)[j]? = some v) : (hc h)[8 + j]? = some v := by
  have hj : j < (h.t.map B).length := (List.getElem?_eq_some_iff.1 hv).1
  have e8 : (h.s.l.map U).length = 8 := rfl
  unfold hc
  rw [List.getElem?_toArray, List.getElem?_append_right (by omega), e8, Nat.add_sub_cancel_left, List.getElem?_append_left hj]
  exact hv
/-- What the region that mixes reads and writes. -/
structure HR5 (b : Nat) (h : Ha) (w : World) : Prop where
  row : Row w b (hc h) 77
theorem HR5.s {b : Nat} {h : Ha} {w : World} (x : HR5 b h w) : w.rangeAt b 0 (h.s.l.map U) := fun j v hv => by
  rw [Nat.zero_add, x.row.cell]; exact hc_s h j v hv
theorem HR5.t {b : Nat} {h : Ha} {w : World} (x : HR5 b h w) : w.rangeAt b 8 (h.t.map B) := fun j v hv => by
  rw [x.row.cell]; exact hc_t h j v hv
theorem HR5.th {b : Nat} {h : Ha} {w : World} (x : HR5 b h w) (ht : h.t.length = 64) : w.there b 0 8 := fun j hj => by
  refine ⟨?_, by rw [Nat.zero_add]; exact x.row.frozen j⟩
  rw [Nat.zero_add, x.row.cell]
  have : j < (hc h).size := by rw [hc_size h ht]; omega
  simp [this]
theorem run_tail (w : World) (b r : Nat) (hr : r < 64) :
    (Instr.sliceAt 75 (.pointer (some ⟨b, 8, none⟩)) (some (.int .i64 r)) none none).run Tryd.prog w = .ok (.slice (some ⟨b, 8 + r, none⟩) (64 - r) (64 - r)) w := by
  have hs5 := Tryd.sizeOf5
  have hne : ¬ 64 = r := by omega
  have hadd : (⟨b, 8, none⟩ : Addr).add r = ⟨b, 8 + r, none⟩ := Addr.add_mid b 8 r
  have hb := run_sliceBound (P := Tryd.prog) w .i64 (r : Int) 64 .sliceB (by omega) (by omega)
  simp [Instr.sliceAt, Instr.sureAddr, run_underlying Tryd.underlying75, Instr.sliceBounds, hs5, hb, hne, hadd]
end Go.Proofs.YtbeionikiiccpaaDoor
namespace Go.Proofs.YtbeionikiiccpaaDoor
open Go.RowKit
open Sha
set_option maxRecDepth 8000
def fr5 (b : Nat) (c1 c4 c5 c6 c7 c8 c9 c10 c11 c12 c13 c14 c15 c16 c17 c18 c19 c20 c21 c22 c23 c24 c25 c26 c27 c28 c29 c30 c31 c32 c33 c34 c35 v36 v37 v38 v39 v40 v41 v42 v43 v44 v45 v46 v47 : Value) : Act := ⟨#[Value.pointer (some ⟨b, 0, none⟩), c1, undef, undef, c4, c5, c6, c7, c8, c9, c10, c11, c12, c13, c14, c15, c16, c17, c18, c19, c20, c21, c22, c23, c24, c25, c26, c27, c28, c29, c30, c31, c32, c33, c34, c35, v36, v37, v38, v39, v40, v41, v42, v43, v44, v45, v46, v47], []⟩
/-- In the midst of the region that mixes. -/
structure M5 (W : World) (b : Nat) (h : Ha) (L : Nat → Bool) (v36 v37 v38 v39 v40 v41 v42 v43 v44 v45 v46 v47 : Value) (w : World) : Prop where
  o0 : L 0 = true → v36 = Value.pointer (some ⟨b, 0, none⟩)
  o1 : L 1 = true → v37 = Value.pointer (some ⟨b, 0, none⟩)
  o2 : L 2 = true → v38 = Value.pointer (some ⟨b, 0, none⟩)
  o3 : L 3 = true → v39 = Value.pointer (some ⟨b, 0, none⟩)
  o4 : L 4 = true → v40 = Value.agg (cU h.s.l)
  o5 : L 5 = true → v41 = Value.pointer (some ⟨b, 0, none⟩)
  o6 : L 6 = true → v42 = Value.pointer (some ⟨b, 0, none⟩)
  o7 : L 7 = true → v43 = Value.pointer (some ⟨b, 8, none⟩)
  o8 : L 8 = true → v44 = Value.agg (cB h.t)
  o9 : L 9 = true → v45 = Value.agg (cU (mx h.s h.t).l)
  o10 : L 10 = true → v46 = Value.pointer (some ⟨b, 0, none⟩)
  o11 : L 11 = true → v47 = Value.pointer (some ⟨b, 0, none⟩)
  row : Row w b (hc (if L 12 = true then ⟨mx h.s h.t, h.t, h.n⟩ else h)) 77
  on : OnlyH b W w
  k9 : L 9 = true → L 4 = true ∧ L 8 = true
  k12 : L 12 = true → L 9 = true
def MX5 (W : World) (b : Nat) (h : Ha) (c1 c4 c5 c6 c7 c8 c9 c10 c11 c12 c13 c14 c15 c16 c17 c18 c19 c20 c21 c22 c23 c24 c25 c26 c27 c28 c29 c30 c31 c32 c33 c34 c35 : Value) (L : Nat → Bool) (a : Act) (w : World) : Prop :=
  ∃ v36 v37 v38 v39 v40 v41 v42 v43 v44 v45 v46 v47, M5 W b h L v36 v37 v38 v39 v40 v41 v42 v43 v44 v45 v46 v47 w ∧ a = fr5 b c1 c4 c5 c6 c7 c8 c9 c10 c11 c12 c13 c14 c15 c16 c17 c18 c19 c20 c21 c22 c23 c24 c25 c26 c27 c28 c29 c30 c31 c32 c33 c34 c35 v36 v37 v38 v39 v40 v41 v42 v43 v44 v45 v46 v47
theorem M5.l0 {W w : World} {b : Nat} {h : Ha} {L : Nat → Bool} {v36 v37 v38 v39 v40 v41 v42 v43 v44 v45 v46 v47 : Value} (m : M5 W b h L v36 v37 v38 v39 v40 v41 v42 v43 v44 v45 v46 v47 w) : M5 W b h (upd L 0) (Value.pointer (some ⟨b, 0, none⟩)) v37 v38 v39 v40 v41 v42 v43 v44 v45 v46 v47 w :=
  ⟨fun _ => rfl, m.o1, m.o2, m.o3, m.o4, m.o5, m.o6, m.o7, m.o8, m.o9, m.o10, m.o11, m.row, m.on, m.k9, m.k12⟩
theorem M5.l1 {W w : World} {b : Nat} {h : Ha} {L : Nat → Bool} {v36 v37 v38 v39 v40 v41 v42 v43 v44 v45 v46 v47 : Value} (m : M5 W b h L v36 v37 v38 v39 v40 v41 v42 v43 v44 v45 v46 v47 w) : M5 W b h (upd L 1) v36 (Value.pointer (some ⟨b, 0, none⟩)) v38 v39 v40 v41 v42 v43 v44 v45 v46 v47 w :=
  ⟨m.o0, fun _ => rfl, m.o2, m.o3, m.o4, m.o5, m.o6, m.o7, m.o8, m.o9, m.o10, m.o11, m.row, m.on, m.k9, m.k12⟩
theorem M5.l2 {W w : World} {b : Nat} {h : Ha} {L : Nat → Bool} {v36 v37 v38 v39 v40 v41 v42 v43 v44 v45 v46 v47 : Value} (m : M5 W b h L v36 v37 v38 v39 v40 v41 v42 v43 v44 v45 v46 v47 w) : M5 W b h (upd L 2) v36 v37 (Value.pointer (some ⟨b, 0, none⟩)) v39 v40 v41 v42 v43 v44 v45 v46 v47 w :=
  ⟨m.o0, m.o1, fun _ => rfl, m.o3, m.o4, m.o5, m.o6, m.o7, m.o8, m.o9, m.o10, m.o11, m.row, m.on, m.k9, m.k12⟩
theorem M5.l3 {W w : World} {b : Nat} {h : Ha} {L : Nat → Bool} {v36 v37 v38 v39 v40 v41 v42 v43 v44 v45 v46 v47 : Value} (m : M5 W b h L v36 v37 v38 v39 v40 v41 v42 v43 v44 v45 v46 v47 w) : M5 W b h (upd L 3) v36 v37 v38 (Value.pointer (some ⟨b, 0, none⟩)) v40 v41 v42 v43 v44 v45 v46 v47 w :=
  ⟨m.o0, m.o1, m.o2, fun _ => rfl, m.o4, m.o5, m.o6, m.o7, m.o8, m.o9, m.o10, m.o11, m.row, m.on, m.k9, m.k12⟩
theorem M5.l4 {W w : World} {b : Nat} {h : Ha} {L : Nat → Bool} {v36 v37 v38 v39 v40 v41 v42 v43 v44 v45 v46 v47 : Value} (m : M5 W b h L v36 v37 v38 v39 v40 v41 v42 v43 v44 v45 v46 v47 w) : M5 W b h (upd L 4) v36 v37 v38 v39 (Value.agg (cU h.s.l)) v41 v42 v43 v44 v45 v46 v47 w :=
  ⟨m.o0, m.o1, m.o2, m.o3, fun _ => rfl, m.o5, m.o6, m.o7, m.o8, m.o9, m.o10, m.o11, m.row, m.on, fun q => ⟨rfl, (m.k9 q).2⟩, m.k12⟩
theorem M5.l5 {W w : World} {b : Nat} {h : Ha} {L : Nat → Bool} {v36 v37 v38 v39 v40 v41 v42 v43 v44 v45 v46 v47 : Value} (m : M5 W b h L v36 v37 v38 v39 v40 v41 v42 v43 v44 v45 v46 v47 w) : M5 W b h (upd L 5) v36 v37 v38 v39 v40 (Value.pointer (some ⟨b, 0, none⟩)) v42 v43 v44 v45 v46 v47 w :=
  ⟨m.o0, m.o1, m.o2, m.o3, m.o4, fun _ => rfl, m.o6, m.o7, m.o8, m.o9, m.o10, m.o11, m.row, m.on, m.k9, m.k12⟩
theorem M5.l6 {W w : World} {b : Nat} {h : Ha} {L : Nat → Bool} {v36 v37 v38 v39 v40 v41 v42 v43 v44 v45 v46 v47 : Value} (m : M5 W b h L v36 v37 v38 v39 v40 v41 v42 v43 v44 v45 v46 v47 w) : M5 W b h (upd L 6) v36 v37 v38 v39 v40 v41 (Value.pointer (some ⟨b, 0, none⟩)) v43 v44 v45 v46 v47 w :=
  ⟨m.o0, m.o1, m.o2, m.o3, m.o4, m.o5, fun _ => rfl, m.o7, m.o8, m.o9, m.o10, m.o11, m.row, m.on, m.k9, m.k12⟩
theorem M5.l7 {W w : World} {b : Nat} {h : Ha} {L : Nat → Bool} {v36 v37 v38 v39 v40 v41 v42 v43 v44 v45 v46 v47 : Value} (m : M5 W b h L v36 v37 v38 v39 v40 v41 v42 v43 v44 v45 v46 v47 w) : M5 W b h (upd L 7) v36 v37 v38 v39 v40 v41 v42 (Value.pointer (some ⟨b, 8, none⟩)) v44 v45 v46 v47 w :=
  ⟨m.o0, m.o1, m.o2, m.o3, m.o4, m.o5, m.o6, fun _ => rfl, m.o8, m.o9, m.o10, m.o11, m.row, m.on, m.k9, m.k12⟩
theorem M5.l8 {W w : World} {b : Nat} {h : Ha} {L : Nat → Bool} {v36 v37 v38 v39 v40 v41 v42 v43 v44 v45 v46 v47 : Value} (m : M5 W b h L v36 v37 v38 v39 v40 v41 v42 v43 v44 v45 v46 v47 w) : M5 W b h (upd L 8) v36 v37 v38 v39 v40 v41 v42 v43 (Value.agg (cB h.t)) v45 v46 v47 w :=
  ⟨m.o0, m.o1, m.o2, m.o3, m.o4, m.o5, m.o6, m.o7, fun _ => rfl, m.o9, m.o10, m.o11, m.row, m.on, fun q => ⟨(m.k9 q).1, rfl⟩, m.k12⟩
theorem M5.l9 {W w : World} {b : Nat} {h : Ha} {L : Nat → Bool} {v36 v37 v38 v39 v40 v41 v42 v43 v44 v45 v46 v47 : Value} (m : M5 W b h L v36 v37 v38 v39 v40 v41 v42 v43 v44 v45 v46 v47 w) (hk : L 4 = true ∧ L 8 = true) : M5 W b h (upd L 9) v36 v37 v38 v39 v40 v41 v42 v43 v44 (Value.agg (cU (mx h.s h.t).l)) v46 v47 w :=
  ⟨m.o0, m.o1, m.o2, m.o3, m.o4, m.o5, m.o6, m.o7, m.o8, fun _ => rfl, m.o10, m.o11, m.row, m.on, fun _ => hk, fun _ => rfl⟩
theorem M5.l10 {W w : World} {b : Nat} {h : Ha} {L : Nat → Bool} {v36 v37 v38 v39 v40 v41 v42 v43 v44 v45 v46 v47 : Value} (m : M5 W b h L v36 v37 v38 v39 v40 v41 v42 v43 v44 v45 v46 v47 w) : M5 W b h (upd L 10) v36 v37 v38 v39 v40 v41 v42 v43 v44 v45 (Value.pointer (some ⟨b, 0, none⟩)) v47 w :=
  ⟨m.o0, m.o1, m.o2, m.o3, m.o4, m.o5, m.o6, m.o7, m.o8, m.o9, fun _ => rfl, m.o11, m.row, m.on, m.k9, m.k12⟩
theorem M5.l11 {W w : World} {b : Nat} {h : Ha} {L : Nat → Bool} {v36 v37 v38 v39 v40 v41 v42 v43 v44 v45 v46 v47 : Value} (m : M5 W b h L v36 v37 v38 v39 v40 v41 v42 v43 v44 v45 v46 v47 w) : M5 W b h (upd L 11) v36 v37 v38 v39 v40 v41 v42 v43 v44 v45 v46 (Value.pointer (some ⟨b, 0, none⟩)) w :=
  ⟨m.o0, m.o1, m.o2, m.o3, m.o4, m.o5, m.o6, m.o7, m.o8, m.o9, m.o10, fun _ => rfl, m.row, m.on, m.k9, m.k12⟩
theorem M5.below {W w : World} {b : Nat} {h : Ha} {L : Nat → Bool} {v36 v37 v38 v39 v40 v41 v42 v43 v44 v45 v46 v47 : Value} (m : M5 W b h L v36 v37 v38 v39 v40 v41 v42 v43 v44 v45 v46 v47 w) {w1 : World} (hb : Below w.heap.size w w1) : M5 W b h L v36 v37 v38 v39 v40 v41 v42 v43 v44 v45 v46 v47 w1 :=
  ⟨m.o0, m.o1, m.o2, m.o3, m.o4, m.o5, m.o6, m.o7, m.o8, m.o9, m.o10, m.o11, m.row.below hb m.row.lt, m.on.trans (OnlyH.of_below hb), m.k9, m.k12⟩
theorem hc_sets (h : Ha) (s : St) : (hc h).toList.take 0 ++ s.l.map U ++ (hc h).toList.drop (0 + (s.l.map U).length) = (hc ⟨s, h.t, h.n⟩).toList := by
  rw [hc_toList, hc_toList]
  rfl
theorem M5.l12 {W w : World} {b : Nat} {h : Ha} {L : Nat → Bool} {v36 v37 v38 v39 v40 v41 v42 v43 v44 v45 v46 v47 : Value} (m : M5 W b h L v36 v37 v38 v39 v40 v41 v42 v43 v44 v45 v46 v47 w) (hl : L 12 = false) (h9 : L 9 = true) : M5 W b h (upd L 12) v36 v37 v38 v39 v40 v41 v42 v43 v44 v45 v46 v47 (w.setRow b (hc ⟨mx h.s h.t, h.t, h.n⟩)) := by
  have hr := m.row
  rw [hl] at hr
  refine ⟨m.o0, m.o1, m.o2, m.o3, m.o4, m.o5, m.o6, m.o7, m.o8, m.o9, m.o10, m.o11, ?_, m.on.trans (OnlyH.setRow _ _), m.k9, fun _ => h9⟩
  exact hr.setRow _
theorem M5.no4 {W w : World} {b : Nat} {h : Ha} {L : Nat → Bool} {v36 v37 v38 v39 v40 v41 v42 v43 v44 v45 v46 v47 : Value} (m : M5 W b h L v36 v37 v38 v39 v40 v41 v42 v43 v44 v45 v46 v47 w) (hl : L 4 = false) : L 12 = false := by
  cases q : L 12 with
  | false => rfl
  | true => rw [(m.k9 (m.k12 q)).1] at hl; cases hl
theorem M5.no8 {W w : World} {b : Nat} {h : Ha} {L : Nat → Bool} {v36 v37 v38 v39 v40 v41 v42 v43 v44 v45 v46 v47 : Value} (m : M5 W b h L v36 v37 v38 v39 v40 v41 v42 v43 v44 v45 v46 v47 w) (hl : L 8 = false) : L 12 = false := by
  cases q : L 12 with
  | false => rfl
  | true => rw [(m.k9 (m.k12 q)).2] at hl; cases hl
theorem M5.no9 {W w : World} {b : Nat} {h : Ha} {L : Nat → Bool} {v36 v37 v38 v39 v40 v41 v42 v43 v44 v45 v46 v47 : Value} (m : M5 W b h L v36 v37 v38 v39 v40 v41 v42 v43 v44 v45 v46 v47 w) (hl : L 9 = false) : L 12 = false := by
  cases q : L 12 with
  | false => rfl
  | true => rw [m.k12 q] at hl; cases hl
theorem M5.row0 {W w : World} {b : Nat} {h : Ha} {L : Nat → Bool} {v36 v37 v38 v39 v40 v41 v42 v43 v44 v45 v46 v47 : Value} (m : M5 W b h L v36 v37 v38 v39 v40 v41 v42 v43 v44 v45 v46 v47 w) (hl : L 12 = false) : Row w b (hc h) 77 := by
  have := m.row
  rwa [hl] at this
theorem wp_store_at {P : Program} {o : Oper} {a : Act} {w : World} {K : Act → World → Prop} {Q : Exit → Act → World → Prop} (ty : TypeId) (x y : Operand) (ho : o.op = .store ty x y)
    (g j : Nat) (cells : Array Value) (hx : a.eval x = .pointer (some ⟨g, j, none⟩)) (hy : a.eval y = .agg cells)
    (t : TypeId) (cur : Array Value) (hg : Row w g cur t) (hi : (P.info? ty).map (·.size) = some cells.size)
    (hfit : j + cells.size ≤ cur.size) (h1 : cells.all (·.oneCell') = true)
    (h : K (a.put o.dst undef) (w.setRow g (cur.toList.take j ++ cells.toList ++ cur.toList.drop (j + cells.toList.length)).toArray)) : o.wp P a w K Q := by
  have hst := run_storeCells_at P g j t cells.toList 0 cur w hg (by simpa using hfit) (fun v hv => (Array.all_eq_true_iff_forall_mem.1 h1) v (by simpa using hv))
  have hsv : (storeVar ty ⟨g, j, none⟩ (.agg cells)).run P w = .ok () (w.setRow g (cur.toList.take j ++ cells.toList ++ cur.toList.drop (j + cells.toList.length)).toArray) := by
    cases hq : P.info? ty with
    | none => simp [hq] at hi
    | some i =>
      have hs : cells.size = i.size := by simp [hq] at hi; omega
      simp only [Nat.add_zero] at hst
      simp [storeVar, sizeOf, typeInfo, hq, Value.cells, hs, hst]
  unfold Oper.wp execOp
  simp only [ho, hx, hy, Instr.storeAt, Instr.sureAddr, Sem.run_bind, Sem.run_pure, Result.andThen_ok, hsv]
  exact h
end Go.Proofs.YtbeionikiiccpaaDoor
