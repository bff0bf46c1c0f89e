import Derived.Test.YtdncebdlhoogcaaMeth
namespace Go.Proofs.Ytdncebdlhoogcaa
open Go.RowKit
open Sha
theorem u8_xor_B (a b : UInt8) : bits .xor .u8 (a.toNat : Int) (b.toNat : Int) = ((a ^^^ b).toNat : Int) := by
  rw [u8_xor_nat _ _ a.toNat_lt b.toNat_lt, UInt8.toNat_xor]
def padK (key : List UInt8) : List UInt8 := spl (List.replicate 64 0) 0 (key.take (min key.length 64))
def mskk (key : List UInt8) (m : UInt8) (k : Nat) : List UInt8 := (List.range 64).map fun i => if i < k then (key.getD i 0) ^^^ m else key.getD i 0
theorem mskk_len (key : List UInt8) (m : UInt8) (k : Nat) : (mskk key m k).length = 64 := by simp [mskk]
theorem mskk_all (key : List UInt8) (m : UInt8) : mskk key m 64 = msk key m := by
  unfold mskk msk
  apply List.map_congr_left
  intro i hi
  rw [if_pos (by simpa using hi)]
theorem mskk_zero (key : List UInt8) (m : UInt8) (h : key.length ≤ 64) : mskk key m 0 = padK key := by
  apply List.ext_getElem
  · simp [mskk, padK, spl]; omega
  · intro i h1 h2
    have hi : i < 64 := by simpa [mskk] using h1
    simp only [mskk, padK, spl, List.getElem_map, List.getElem_range, Nat.not_lt_zero, if_false, List.take_zero, List.nil_append, Nat.zero_add]
    rw [List.getElem_append]
    have hm : min key.length 64 = key.length := by omega
    by_cases hk : i < key.length
    · simp [hm, hk]
    · have e : ∀ (z : List UInt8) (j : Nat) (hj : j < z.length), (∀ c ∈ z, c = 0) → z[j] = 0 := fun z j hj hz => hz _ (List.getElem_mem hj)
      rw [dif_neg (by simpa [hm] using hk)]
      rw [e _ _ _ (by intro c hc; exact List.eq_of_mem_replicate (List.mem_of_mem_drop hc))]
      simp [hk]
theorem mskk_next (key : List UInt8) (m : UInt8) (k : Nat) (h : k < 64) : mskk key m (k + 1) = (mskk key m k).set k ((key.getD k 0) ^^^ m) := by
  apply List.ext_getElem?
  intro i
  rw [List.getElem?_set]
  by_cases hi : i < 64
  · by_cases e : k = i
    · subst e; simp [mskk, h]
    · have : (i < k + 1) = (i < k) := by simp; omega
      simp [mskk, hi, e, this]
  · simp [mskk, hi]; omega
theorem mskk_at (key : List UInt8) (m : UInt8) (k : Nat) (h : k < 64) : (mskk key m k).getD k 0 = key.getD k 0 := by
  simp [mskk, h]
def z64b : List UInt8 := List.replicate 64 0
theorem z64b_lit : cB z64b = #[.int .u8 0, .int .u8 0, .int .u8 0, .int .u8 0, .int .u8 0, .int .u8 0, .int .u8 0, .int .u8 0, .int .u8 0, .int .u8 0, .int .u8 0, .int .u8 0, .int .u8 0, .int .u8 0, .int .u8 0, .int .u8 0, .int .u8 0, .int .u8 0, .int .u8 0, .int .u8 0, .int .u8 0, .int .u8 0, .int .u8 0, .int .u8 0, .int .u8 0, .int .u8 0, .int .u8 0, .int .u8 0, .int .u8 0, .int .u8 0, .int .u8 0, .int .u8 0, .int .u8 0, .int .u8 0, .int .u8 0, .int .u8 0, .int .u8 0, .int .u8 0, .int .u8 0, .int .u8 0, .int .u8 0, .int .u8 0, .int .u8 0, .int .u8 0, .int .u8 0, .int .u8 0, .int .u8 0, .int .u8 0, .int .u8 0, .int .u8 0, .int .u8 0, .int .u8 0, .int .u8 0, .int .u8 0, .int .u8 0, .int .u8 0, .int .u8 0, .int .u8 0, .int .u8 0, .int .u8 0, .int .u8 0, .int .u8 0, .int .u8 0, .int .u8 0] := by rfl
theorem cB_one (l : List UInt8) : (cB l).all (·.oneCell') = true := by
  simp [cB, B, Value.oneCell']
theorem cB_copy (z l : List UInt8) : ((cB z).toList.take 0 ++ l.map B ++ (cB z).toList.drop (0 + (l.map B).length)).toArray = cB (spl z 0 l) := by
  simp [cB, spl, List.map_drop]
theorem wpList_copy_str {ops : Array Oper} {rest : List Oper} {o : Oper} {a : Act} {w : World} {Q : Exit → Act → World → Prop} (hgd : o.guard = none) (d s : Operand)
    (ho : o.op = .call { callee := .builtin .copy, args := #[d, s], argTypes := #[33, 9] })
    (g j dLen dCap : Nat) (l : List UInt8) (hd : a.eval d = .slice (some ⟨g, j, none⟩) dLen dCap) (hs : a.eval s = .string ⟨l.toArray⟩)
    (cur : Array Value) (t : TypeId) (hg : Row w g cur t) (hfit : j + min l.length dLen ≤ cur.size) (new : Array Value)
    (hw : (cur.toList.take j ++ (l.take (min l.length dLen)).map B ++ cur.toList.drop (j + ((l.take (min l.length dLen)).map B).length)).toArray = new)
    (h : ∀ w', Row w' g new t → Only g w w' → wpList Try.prog ops Q rest (a.put o.dst (goInt ((min l.length dLen : Nat) : Int))) w') : wpList Try.prog ops Q (o :: rest) a w := by
  subst hw
  have h := h _ (hg.setRow _) (Only.setRow _ _)
  refine wpList_plain hgd fun K hK => ?_
  have hrun := run_copy_str w o.type g j dLen dCap cur t l hg hfit
  unfold Oper.wp
  simp only [execOp, ho]
  simp [resolve, invoke, builtin, hd, hs, hrun, Result.andThen]
  exact hK _ _ (by simpa using h)
set_option maxHeartbeats 1000000 in
theorem masked_any (key : List UInt8) (mask : UInt8) (x : Int) (hx : x = (mask.toNat : Int)) (w : World) (hk : key.length ≤ 64) :
    Calls Try.prog 38 #[.string ⟨key.toArray⟩, .int .u8 x] w fun e w' => e = .returned (.string ⟨(msk key mask).toArray⟩) ∧ Below w.heap.size w w' := by
  subst hx
  go_enter Try.func38, Try.ntmps38
  go_wp2_with (refine wpList_copy_str rfl (.tmp 7) (.tmp 8) rfl w.heap.size 0 64 64 key (by rfl) (by rfl) (cB z64b) 68 (by rw [z64b_lit]; exact Row.new w _ 68) (by rw [cB_size]; show 0 + min key.length 64 ≤ 64; omega) _ (cB_copy _ _) ?_; intro w1 hr1 ho1)
  have hb1 : Below w.heap.size w w1 := ho1.below (alloc_below w _) (Nat.le_refl _) (by simp)
  have hr0 : Row w1 w.heap.size (cB (mskk key mask 0)) 68 := by rw [mskk_zero key mask hk]; exact hr1
  have HR := hide hr0
  clear hr1 ho1 hr0
  go_loopw [10] (fun i wr => ∃ k : Nat, k ≤ 64 ∧ i = .int .i64 k ∧ Row wr w.heap.size (cB (mskk key mask k)) 68 ∧ Below w.heap.size w wr) (fun i _ => 64 - (intOf i).toNat)
  case atStart => exact ⟨0, by omega, rfl, unhide HR, hb1⟩
  case round =>
    clear HR hb1
    obtain ⟨k, hk64, rfl, hrow, hbe⟩ := hrel
    by_cases hlt : k < 64
    · have c0 : wr.cell? ⟨w.heap.size, k, none⟩ = some (.int .u8 ((key.getD k 0).toNat : Int)) := by
        rw [hrow.cell, cB_get _ _ (by rw [mskk_len]; exact hlt), mskk_at _ _ _ hlt]
      have z0 : wr.frozen? ⟨w.heap.size, k, none⟩ = false := hrow.frozen k
      generalize hx : key.getD k 0 = x at c0
      have HX := hide hx
      have HRow := hide hrow
      clear hx hrow
      go_wp2
      go_roundw
      case rel =>
        refine ⟨k + 1, by omega, by go_num, ?_, hbe.setCell (Nat.le_refl _) _⟩
        rw [u8_xor_B, mskk_next _ _ _ hlt, unhide HX]
        have := (unhide HRow).set k (.int .u8 ((x ^^^ mask).toNat : Int))
        rwa [cB_set] at this
      case measure => simp [intOf]; omega
    · have hk6 : k = 64 := by omega
      have hd : decide ((k : Int) < 64) = false := by simp; omega
      have hc : (convert 33 9 (.slice (some ⟨w.heap.size, 0, none⟩) 64 64)).run Try.prog wr = .ok (.string ⟨(msk key mask).toArray⟩) wr := by
        refine run_text wr w.heap.size 0 64 64 (msk key mask) (by simp [msk]) ?_
        intro j hj
        rw [Nat.zero_add, hrow.cell, hk6, mskk_all]
        exact cB_get _ _ (by simpa [msk] using hj)
      have HC := hide hc
      clear hc hrow hk6 hlt
      go_wp2_with (refine wpList_conv rfl 33 9 (.tmp 20) rfl _ _ (by rfl) (unhide HC) ?_)
      go_ret
      exact ⟨rfl, hbe⟩
end Go.Proofs.Ytdncebdlhoogcaa
