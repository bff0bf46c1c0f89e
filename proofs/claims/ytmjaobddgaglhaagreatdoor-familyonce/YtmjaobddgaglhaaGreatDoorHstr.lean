import Derived.Test.YtmjaobddgaglhaaGreatDoorZhnum
import Derived.Test.YtmjaobddgaglhaaGreatDoorHrow
namespace Go.Proofs.YtmjaobddgaglhaaGreatDoor
open Go.RowKit
open Sha
set_option maxRecDepth 8000
theorem wpList_convH {P : Program} {ops : Array Oper} {rest : List Oper} {o : Oper} {a : Act} {w : World} {Q : Exit → Act → World → Prop} (hgd : o.guard = none) (src dst : TypeId) (x : Operand) (ho : o.op = .convert src dst x)
    (v v' : Value) (hx : a.eval x = v) (hrun : (convert src dst v).run P w = .ok v' w)
    (h : wpList P ops Q rest (a.put o.dst v') w) : wpList P ops Q (o :: rest) a w :=
  wpList_plain hgd fun _ hK => by
    unfold Oper.wp execOp
    simp only [ho, hx, Sem.run_bind, hrun, Result.andThen_ok]
    exact hK _ _ h
theorem fold_pushH (l : List UInt8) (r : ByteArray) : (l.map fun c => (c.toNat : Int)).foldl (fun r n => r.push (UInt8.ofNat n.toNat)) r = ⟨r.data ++ l.toArray⟩ := by
  induction l generalizing r with
  | nil => simp
  | cons c l ih =>
    simp only [List.map_cons, List.foldl_cons, ih]
    simp [ByteArray.push]
/-- What lies in memory as bytes is the text of them. -/
theorem run_textH (w : World) (g o len cap : Nat) (l : List UInt8) (hl : l.length = len) (h : ∀ j, j < len → w.cell? ⟨g, o + j, none⟩ = some (.int .u8 ((l.getD j 0).toNat : Int))) :
    (convert 101 9 (.slice (some ⟨g, o, none⟩) len cap)).run Tryz.prog w = .ok (.string ⟨l.toArray⟩) w := by
  rw [run_convert_bytes_string w 101 9 5 _ _ _ Tryz.underlying101 Tryz.underlying5 Tryz.underlying9]
  have hload : (loadCells ⟨g, o, none⟩ len).run Tryz.prog w = .ok ((l.map fun c => (c.toNat : Int)).map (Value.int .u8)).toArray w := by
    have := run_loadCells_list (P := Tryz.prog) w ⟨g, o, none⟩ ((l.map fun c => (c.toNat : Int)).map (Value.int .u8)) (fun j v hv => by
      have hadd : (⟨g, o, none⟩ : Addr).add j = ⟨g, o + j, none⟩ := by unfold Addr.add; split <;> simp_all
      rw [hadd]
      have hj : j < len := by
        have := (List.getElem?_eq_some_iff.1 hv).1
        simpa [hl] using this
      rw [h j hj, ← hv]
      simp [List.getElem?_map, List.getElem?_eq_getElem (by omega : j < l.length)])
    simpa [hl] using this
  rw [run_bytesToString w _ _ _ _ hload, fold_pushH]
  simp
/-- The bytes of a number that are laid down first. -/
def nbk (n size k : Nat) : List UInt8 := (List.range size).map fun i => if i < k then UInt8.ofNat (n / 2 ^ (8 * (size - 1 - i))) else 0
theorem nbk_len (n size k : Nat) : (nbk n size k).length = size := by simp [nbk]
theorem nbk_all (n size : Nat) : nbk n size size = nb n size := by
  unfold nbk nb
  apply List.map_congr_left
  intro i hi
  rw [if_pos (by simpa using hi)]
theorem nbk_next (n size k : Nat) (h : k < size) : nbk n size (k + 1) = (nbk n size k).set k (UInt8.ofNat (n / 2 ^ (8 * (size - 1 - k)))) := by
  apply List.ext_getElem?
  intro i
  rw [List.getElem?_set]
  by_cases hi : i < size
  · by_cases e : k = i
    · subst e; simp [nbk, h]
    · have : (i < k + 1) = (i < k) := by simp; omega
      simp [nbk, hi, e, this]
  · simp [nbk, hi]; omega
theorem info5H : (Tryz.prog.info? 5).map (fun i => (i.zero, i.size, i.bytes)) = some (some (.int .u8 0), 1, 1) := by kernel_rfl
theorem made_zero (size : Nat) : (madeCells (Value.int .u8 0).cells (size * 1)).toList = (nbk 0 size 0).map B := by
  have e1 : (madeCells (Value.int .u8 0).cells (size * 1)).toList = List.replicate size (Value.int .u8 0) := by
    apply List.ext_getElem
    · simp [madeCells]
    · intro i h1 h2
      simp [madeCells, Value.cells, Nat.mod_one]
  have e2 : (nbk 0 size 0).map B = List.replicate size (Value.int .u8 0) := by
    apply List.ext_getElem
    · simp [nbk]
    · intro i h1 h2
      simp [nbk, B]
  rw [e1, e2]
theorem byte_ofH (n m : Nat) : ((n : Int) / 2 ^ m % 256) = ((UInt8.ofNat (n / 2 ^ m)).toNat : Int) := by
  rw [UInt8.toNat_ofNat']
  simp
theorem nbk_zero (n size : Nat) : nbk n size 0 = nbk 0 size 0 := by simp [nbk]
set_option maxHeartbeats 1000000 in
theorem number_anyH (n size : Nat) (w : World) (_hn : n < 18446744073709551616) (h1 : 1 ≤ size) (h8 : size ≤ 8) :
    Calls Tryz.prog 151 #[.int .u64 n, .int .i64 size] w fun e w' => e = .returned (.string ⟨(nb n size).toArray⟩) ∧ Below w.heap.size w w' := by
  obtain ⟨i0, hi, hz0, hz1, hz2⟩ := info_parts info5H
  go_enter Tryz.func151, Tryz.ntmps151
  go_wp2_with (refine wpList_make_full _ rfl (.tmp 7) (.tmp 7) 101 rfl w.heap.size 5 i0 (.int .u8 0) 1 Tryz.underlying101 hi hz0 hz1 .i64 .i64 size size size (by rfl) (by rfl) rfl rfl (by rw [hz2]; omega) (by unfold maxLen; omega) (Nat.le_refl _) ?_; intro w1 hown hgrow)
  rw [made_zero, ← nbk_zero n] at hown
  have hbe : Below w.heap.size w w1 := (Below.refl _ _).grown hgrow (Nat.le_refl _) (fun k e => by cases e)
  have HO := hide hown
  clear hown hgrow
  go_loopw [11] (fun i wr => ∃ k : Nat, k ≤ size ∧ i = .int .i64 k ∧ wr.ownsRow w.heap.size 5 1 (.slice (some ⟨w.heap.size, 0, none⟩) size size) size ((nbk n size k).map B) ∧ Below w.heap.size w wr) (fun i _ => size - (intOf i).toNat)
  case atStart => exact ⟨0, by omega, rfl, unhide HO, hbe⟩
  case round =>
    clear HO hbe
    obtain ⟨k, hk, rfl, hown, hbe⟩ := hrel
    by_cases hlt : k < size
    · have c0 : wr.cell? ⟨w.heap.size, k, none⟩ = some (.int .u8 (((nbk n size k).getD k 0).toNat : Int)) := by
        rw [hown.cellAt k (by omega)]
        simp [B, nbk_len, hlt]
      have z0 : wr.frozen? ⟨w.heap.size, k, none⟩ = false := hown.frozenAt k
      have HO := hide hown
      clear hown
      go_wp2
      go_roundw
      case rel =>
        rw [byte_ofH]
        have hs := (unhide HO).stored k (B (UInt8.ofNat (n / 2 ^ (8 * (size - 1 - k)))))
        refine ⟨k + 1, by omega, by go_num, ?_, hbe.setCell (Nat.le_refl _) _⟩
        rw [nbk_next n size k hlt, List.map_set]
        exact hs.1
      case measure => simp [intOf]; omega
    · have hkk : k = size := by omega
      have hc : (convert 101 9 (.slice (some ⟨w.heap.size, 0, none⟩) size size)).run Tryz.prog wr = .ok (.string ⟨(nb n size).toArray⟩) wr := by
        refine run_textH wr w.heap.size 0 size size (nb n size) (by simp [nb]) ?_
        intro j hj
        rw [Nat.zero_add, hown.cellAt j (by omega), hkk, nbk_all]
        simp [nb, B, hj]
      have HC := hide hc
      clear hc hown hkk
      go_wp2_with (refine wpList_convH rfl 101 9 (.tmp 26) rfl _ _ (by rfl) (unhide HC) ?_)
      go_ret
      exact ⟨rfl, hbe⟩
end Go.Proofs.YtmjaobddgaglhaaGreatDoor
