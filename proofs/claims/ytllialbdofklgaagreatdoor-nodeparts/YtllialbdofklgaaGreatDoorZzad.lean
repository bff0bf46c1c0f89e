import Derived.Test.YtllialbdofklgaaGreatDoorZzaa
import Derived.Test.YtllialbdofklgaaGreatDoorZzac
import Derived.Deep.Slices
import Derived.SizedLaws
import Derived.SliceStrings
import Derived.Lib.BufSteps
namespace Go.Proofs.YtllialbdofklgaaGreatDoor
open Go Go.ChangeShapes Go.WideShapes Go.ChangeAt
theorem cells9 : Tryz.prog.cellsOf 9 = 1 := by kernel_rfl
theorem cells22 : Tryz.prog.cellsOf 22 = 1 := by kernel_rfl
theorem cells23 : Tryz.prog.cellsOf 23 = 1 := by kernel_rfl
theorem cells3 : Tryz.prog.cellsOf 3 = 1 := by kernel_rfl
theorem cells4 : Tryz.prog.cellsOf 4 = 1 := by kernel_rfl
theorem cells25 : Tryz.prog.cellsOf 25 = 4 := by kernel_rfl
theorem laidOut : laidOutB Tryz.prog = true := by kernel_rfl
theorem getD_at {α : Type} (f : Nat → α) (z : α) (n k : Nat) (h : k < n) : ((List.range n).map f).getD k z = f k := by simp [h]
set_option maxRecDepth 20000 in
/-- Texts among the arguments. -/
theorem open_strs {H : Type} {enc : TypeId × Value → H} {W : World} {v : Value} {fuel : Nat} {y : DataW H × List MemPlace} (hf : DataW.trod enc Tryz.prog W 0 (fun _ => true) true fuel 22 [v] = some y) :
    ∃ (a : Option Addr) (l : List Bs) (cap : Nat), v = .slice a l.length cap ∧ Sts W a l.length l ∧ (a = none → cap = 0) ∧ l.length ≤ 9223372036854775807 ∧ ∀ j, (l.getD j []).length ≤ 9223372036854775807 := by
  rcases open_strings Tryz.underlying22 Tryz.underlying9 cells9 hf with ⟨hcs, _⟩ | ⟨x, len, c, ss, hcs, _, hl, hm, hss, hx, hel, hmx⟩
  · simp at hcs
    subst hcs
    exact ⟨none, [], 0, rfl, ⟨rfl, fun h => absurd h (by simp)⟩, fun _ => rfl, by simp, fun j => by simp⟩
  · simp at hcs
    subst hcs
    simp only [if_true] at hss
    have hlen : (ss.take len).length = len := by rw [List.length_take]; omega
    have hl2 : ((ss.take len).map fun s => s.data.toList).length = len := by rw [List.length_map, hlen]
    unfold maxLen at hm
    refine ⟨some x, (ss.take len).map fun s => s.data.toList, c, by rw [hl2], ⟨rfl, fun h0 => ?_⟩, (fun e => by cases e), by omega, ?_⟩
    · rw [hl2] at h0 ⊢
      obtain ⟨b, off, spot⟩ := x
      have hspot : spot = none := by simpa [Addr.add] using World.cell?_spot (hel 0 (by omega))
      subst hspot
      refine ⟨b, off, rfl, fun k hk => ?_⟩
      have e0 := hel k (by omega)
      rw [WideShapes.add_plain] at e0
      rw [e0]
      have hk' : k < ss.length := by omega
      simp [hk, hk']
    · intro k
      by_cases hk : k < len
      · have hk' : k < ss.length := by omega
        have := hmx ss[k] (List.getElem_mem hk')
        unfold maxLen at this
        simpa [hk, hk'] using this
      · rw [List.getD_eq_getElem?_getD, List.getElem?_eq_none (by rw [hl2]; omega)]
        simp
set_option maxRecDepth 20000 in
/-- Numbers among the arguments. -/
theorem open_ints {H : Type} {enc : TypeId × Value → H} {W : World} {v : Value} {fuel : Nat} {y : DataW H × List MemPlace} (hf : DataW.trod enc Tryz.prog W 0 (fun _ => true) true fuel 23 [v] = some y) :
    ∃ (a : Option Addr) (l : List Int) (cap : Nat), v = .slice a l.length cap ∧ Ins W a l.length l ∧ (a = none → cap = 0) ∧ l.length ≤ 9223372036854775807 := by
  rcases Go.Deep.open_slice1 Tryz.underlying23 cells3 hf with ⟨hcs, _⟩ | ⟨x, len, c, m, n, V, D, Pl, hcs, _, hl, hm, hmm, hx, hel⟩
  · simp at hcs
    subst hcs
    exact ⟨none, [], 0, rfl, ⟨rfl, fun h => absurd h (by simp)⟩, fun _ => rfl, by simp⟩
  · simp at hcs
    subst hcs
    simp only [if_true] at hmm
    subst hmm
    have each : ∀ i, i < m → ∃ z : Int, W.cell? (x.add i) = some (.int .i64 z) := by
      intro i hi
      obtain ⟨h1, h2⟩ := hel i hi
      obtain ⟨z, ez, _, w0⟩ := DataW.trod_int Tryz.underlying3 h2
      simp only [List.cons.injEq, and_true] at ez
      rw [ez] at h1
      exact ⟨z, h1⟩
    obtain ⟨z, hz⟩ := Go.Deep.choose_lt each
    have hlen : ((List.range len).map z).length = len := by simp
    unfold maxLen at hm
    refine ⟨some x, (List.range len).map z, m, by rw [hlen], ⟨rfl, fun h0 => ?_⟩, (fun e => by cases e), by omega⟩
    rw [hlen] at h0 ⊢
    obtain ⟨b, off, spot⟩ := x
    have hspot : spot = none := by simpa [Addr.add] using World.cell?_spot (hz 0 (by omega))
    subst hspot
    refine ⟨b, off, rfl, fun k hk => ?_⟩
    rw [getD_at z 0 len k hk]
    have := hz k (by omega)
    rw [WideShapes.add_plain] at this
    exact this
set_option maxRecDepth 20000 in
/-- A node among the arguments. -/
theorem open_node {H : Type} {enc : TypeId × Value → H} {W : World} {v : Value} {base : Nat} {d : DataW H} {ps : List MemPlace} (hval : Value.okWide Tryz.prog W .any base 25 v)
    (h : DataW.Trod enc Tryz.prog W 0 (fun _ => true) true 25 v d ps) :
    ∃ (n : Nd) (ka va ia : Option Addr) (kc vc ic : Nat), v = nda n ka va ia kc vc ic ∧ NA n ka va ia W ∧ (ka = none → kc = 0) ∧ (va = none → vc = 0) ∧ (ia = none → ic = 0) ∧ n.keys.length ≤ 9223372036854775807 ∧ n.vals.length ≤ 9223372036854775807 ∧ n.kids.length ≤ 9223372036854775807 ∧ (∀ j, (n.keys.getD j []).length ≤ 9223372036854775807) ∧ (∀ j, (n.vals.getD j []).length ≤ 9223372036854775807) := by
  obtain ⟨cs, rfl, hc⟩ := okWide_struct Tryz.underlying25 hval
  rw [cells25] at hc
  obtain ⟨fuel, hf⟩ := h
  obtain ⟨xs, k, hk, hxy, _, hxl, hfs⟩ := DataW.trod_struct Tryz.underlying25 hf
  obtain ⟨l⟩ := cs
  match xs, hxl, l, hc with
  | [y0, y1, y2, y3], _, [v0, v1, v2, v3], _ =>
    have g0 := hfs 0 _ rfl
    have g1 := hfs 1 _ rfl
    have g2 := hfs 2 _ rfl
    have g3 := hfs 3 _ rfl
    simp [cells4, cells22, cells23, Value.cells] at g0 g1 g2 g3
    obtain ⟨z0, ez0, _⟩ := DataW.trod_bool Tryz.underlying4 g0
    obtain ⟨ka, ks, kc, rfl, k1, k2, k3, k4⟩ := open_strs g1
    obtain ⟨va, vs, vc, rfl, w1, w2, w3, w4⟩ := open_strs g2
    obtain ⟨ia, is, ic, rfl, i1, i2, i3⟩ := open_ints g3
    simp only [List.cons.injEq, and_true] at ez0
    subst ez0
    exact ⟨⟨z0, ks, vs, is⟩, ka, va, ia, kc, vc, ic, rfl, ⟨k1, w1, i1⟩, k2, w2, i2, k3, w3, i3, k4, w4⟩
end Go.Proofs.YtllialbdofklgaaGreatDoor
namespace Go.Proofs.YtllialbdofklgaaGreatDoor
open Go.RowKit
set_option maxHeartbeats 4000000
set_option maxRecDepth 8000
/-- A leaf whose lists go together. -/
def agl (n : Nd) : Bool := decide (n.vals.length = n.keys.length) && decide (n.kids.length = 0) && !anyB lng n.vals
theorem agrees_leaf (n : Nd) (ka va ia : Option Addr) (kc vc ic : Nat) (w : World) (h : NA n ka va ia w) (hb : NB n) (hl : n.leaf = true) :
    Calls Tryz.prog 101 #[nda n ka va ia kc vc ic] w fun e w' => e = .returned (.bool (agl n)) ∧ Below w.heap.size w w' := by
  obtain ⟨lf, ks, vs, is⟩ := n
  simp only at hl
  subst hl
  have hA := (Below.refl w.heap.size w).alloc (Nat.le_refl _) (.cells #[.bool true, .slice ka ks.length kc, .slice va vs.length vc, .slice ia is.length ic] 25)
  have hvs := (h.below hA).vs
  have H1 := hide (containsFuncL_any va vs.length vc vs _ hvs hb.v hb.vt)
  have b1 := hb.k
  have b2 := hb.v
  have b3 := hb.i
  simp only at b1 b2 b3
  have HA := hide hA
  have HF := hide (show agl ⟨true, ks, vs, is⟩ = (decide (vs.length = ks.length) && decide (is.length = 0) && !anyB lng vs) from rfl)
  generalize agl ⟨true, ks, vs, is⟩ = F at *
  clear h hA hvs hb
  unfold nda
  simp only
  generalize hal : anyB lng vs = al at *
  generalize hkl : ks.length = kl at *
  generalize hvl : vs.length = vl at *
  generalize hil : is.length = il at *
  clear hkl hvl hil hal ks vs is
  by_cases h1 : vl = kl
  · subst h1
    by_cases h2 : il = 0
    · subst h2
      go_enter Tryz.func101, Tryz.ntmps101
      go_wp2_with fail
      refine (unhide H1).mono ?_
      rintro e w1 ⟨rfl, rfl⟩
      go_wp2
      go_ret
      exact ⟨ret_bool (by rw [unhide HF]; simp), unhide HA⟩
    · have h2' : ((il : Int) == 0) = false := by simp; omega
      go_enter Tryz.func101, Tryz.ntmps101
      go_wp2
      go_ret
      exact ⟨ret_bool (by rw [unhide HF]; simp [h2]), unhide HA⟩
  · have h1' : ((vl : Int) == (kl : Int)) = false := by simp; omega
    go_enter Tryz.func101, Tryz.ntmps101
    go_wp2
    go_ret
    exact ⟨ret_bool (by rw [unhide HF]; simp [h1]), unhide HA⟩
/-- A leaf that has its form. -/
def hfl (n : Nd) : Bool := decide (0 < n.keys.length) && agl n
theorem hasForm_leaf (n : Nd) (ka va ia : Option Addr) (kc vc ic : Nat) (w : World) (h : NA n ka va ia w) (hb : NB n) (hl : n.leaf = true) :
    Calls Tryz.prog 87 #[nda n ka va ia kc vc ic] w fun e w' => e = .returned (.bool (hfl n)) ∧ Below w.heap.size w w' := by
  have hA := (Below.refl w.heap.size w).alloc (Nat.le_refl _) (.cells #[.bool n.leaf, .slice ka n.keys.length kc, .slice va n.vals.length vc, .slice ia n.kids.length ic] 25)
  have H1 := hide (agrees_leaf n ka va ia kc vc ic _ (h.below hA) hb hl)
  have b1 := hb.k
  have HA := hide hA
  unfold hfl
  generalize agl n = ag at *
  clear h hA hb hl
  unfold nda at *
  generalize n.keys.length = kl at *
  generalize n.vals.length = vl at *
  generalize n.kids.length = il at *
  generalize n.leaf = lf at *
  by_cases h1 : 0 < kl
  · have h1' : decide ((0 : Int) < (kl : Int)) = true := by rw [decide_eq_true_eq]; omega
    go_enter Tryz.func87, Tryz.ntmps87
    go_wp2_with fail
    refine (unhide H1).mono ?_
    rintro e w1 ⟨rfl, b⟩
    have HB := hide ((unhide HA).trans (b.mono (unhide HA).size))
    clear b
    go_wp2
    go_ret
    exact ⟨ret_bool (by simp [h1]), unhide HB⟩
  · have h1' : decide ((0 : Int) < (kl : Int)) = false := by rw [decide_eq_false_iff_not]; omega
    go_enter Tryz.func87, Tryz.ntmps87
    go_wp2
    go_ret
    exact ⟨ret_bool (by simp [h1]), unhide HA⟩
/-- Why a leaf is not right. -/
def wrl (n : Nd) : Nat := if hfl n then (if kok n.keys then (if 480 < n.siz then 102 else 0) else 101) else 100
theorem wrong_leaf (n : Nd) (ka va ia : Option Addr) (kc vc ic : Nat) (w : World) (h : NA n ka va ia w) (hb : NB n) (hl : n.leaf = true) :
    Calls Tryz.prog 59 #[nda n ka va ia kc vc ic] w fun e w' => e = .returned (I (wrl n)) ∧ Below w.heap.size w w' := by
  have hA := (Below.refl w.heap.size w).alloc (Nat.le_refl _) (.cells #[.bool n.leaf, .slice ka n.keys.length kc, .slice va n.vals.length vc, .slice ia n.kids.length ic] 25)
  have hg := heap_alloc_new w (.cells #[.bool n.leaf, .slice ka n.keys.length kc, .slice va n.vals.length vc, .slice ia n.kids.length ic] 25)
  have hz := lt_of_row hg
  have hna := h.below hA
  have H1 := hide (hasForm_leaf n ka va ia kc vc ic _ hna hb hl)
  have H2 := hide (fun W (b : Below (w.alloc (.cells #[.bool n.leaf, .slice ka n.keys.length kc, .slice va n.vals.length vc, .slice ia n.kids.length ic] 25)).heap.size (w.alloc (.cells #[.bool n.leaf, .slice ka n.keys.length kc, .slice va n.vals.length vc, .slice ia n.kids.length ic] 25)) W) => keysMayBe_any ka _ kc n.keys W (hna.below b).ks hb.k hb.kt)
  have H3 := hide (fun W (b : Below (w.alloc (.cells #[.bool n.leaf, .slice ka n.keys.length kc, .slice va n.vals.length vc, .slice ia n.kids.length ic] 25)).heap.size (w.alloc (.cells #[.bool n.leaf, .slice ka n.keys.length kc, .slice va n.vals.length vc, .slice ia n.kids.length ic] 25)) W) => size_any n ka va ia kc vc ic W (hna.below b) hb)
  have HA := hide hA
  have HG := hide hg
  have hsz : n.siz ≤ 100000000000 := by
    obtain ⟨b1, b2, b3, b4, b5⟩ := hb
    unfold Nd.siz
    split <;> omega
  unfold wrl
  generalize hfl n = c1 at *
  generalize kok n.keys = c2 at *
  generalize n.siz = sz at *
  clear h hA hb hl hna hg
  unfold nda at *
  generalize n.keys.length = kl at *
  generalize n.vals.length = vl at *
  generalize n.kids.length = il at *
  generalize n.leaf = lf at *
  clear n
  go_enter Tryz.func59, Tryz.ntmps59
  go_wp2_with fail
  refine (unhide H1).mono ?_
  rintro e w1 ⟨rfl, b⟩
  have HB1 := hide b
  obtain ⟨d0, d1, d2, d3⟩ := box4 (unhide HG) b hz
  have hz1 : w.heap.size < w1.heap.size := Nat.lt_of_lt_of_le hz b.size
  have h2 := hide (unhide H2 w1 b)
  clear b H2
  cases c1
  · go_wp2
    go_ret
    exact ⟨rfl, (unhide HA).trans ((unhide HB1).mono (unhide HA).size)⟩
  · go_wp2_with fail
    refine (unhide h2).mono ?_
    rintro e w2 ⟨rfl, q, rfl⟩
    have HB2 := hide (bel_q (unhide HB1) q)
    have h3 := hide (unhide H3 _ (bel_q (unhide HB1) q))
    clear H3
    cases c2
    · go_wp2
      go_ret
      exact ⟨rfl, (unhide HA).trans ((unhide HB2).mono (unhide HA).size)⟩
    · go_wp2_with fail
      refine (unhide h3).mono ?_
      rintro e w3 ⟨rfl, b3⟩
      have HB3 := hide ((unhide HA).trans (((unhide HB2).trans (b3.mono (unhide HB2).size)).mono (unhide HA).size))
      clear b3
      by_cases h : 480 < sz
      · have h' : decide ((480 : Int) < (sz : Int)) = true := by rw [decide_eq_true_eq]; omega
        go_wp2
        go_ret
        exact ⟨ret_int (by simp), unhide HB3⟩
      · have h' : decide ((480 : Int) < (sz : Int)) = false := by rw [decide_eq_false_iff_not]; omega
        go_wp2
        go_ret
        exact ⟨ret_int (by simp), unhide HB3⟩
end Go.Proofs.YtllialbdofklgaaGreatDoor
namespace Go.Proofs.YtllialbdofklgaaGreatDoor
open Go.RowKit Go.Lib
theorem ret_str {a b : List UInt8} (h : a = b) : Ending.returned (.string ⟨a.toArray⟩) = .returned (.string ⟨b.toArray⟩) := by rw [h]
def B (c : UInt8) : Value := .int .u8 (c.toNat : Int)
theorem ofInt_i64 (a : Nat) (ha : a < 9223372036854775808) : (BitVec.ofInt 64 (a : Int)).toNat = a := by
  rw [BitVec.toNat_ofInt]; omega
theorem i64_and_nat (a b : Nat) (ha : a < 9223372036854775808) (hb : b < 9223372036854775808) : bits .and .i64 (a : Int) (b : Int) = ((a &&& b : Nat) : Int) := by
  have hx : a &&& b < 2 ^ 63 := Nat.and_lt_two_pow a hb
  have h1 := ofInt_i64 a ha
  have h2 := ofInt_i64 b hb
  have hb' : bits .and .i64 (a : Int) (b : Int) = IntKind.i64.wrap (((BitVec.ofInt 64 (a : Int)) &&& (BitVec.ofInt 64 (b : Int))).toNat : Int) := rfl
  rw [hb', BitVec.toNat_and, h1, h2, IntKind.wrap_i64]; omega
theorem i64_or_nat (a b : Nat) (ha : a < 9223372036854775808) (hb : b < 9223372036854775808) : bits .or .i64 (a : Int) (b : Int) = ((a ||| b : Nat) : Int) := by
  have hx : a ||| b < 2 ^ 63 := Nat.or_lt_two_pow ha hb
  have h1 := ofInt_i64 a ha
  have h2 := ofInt_i64 b hb
  have hb' : bits .or .i64 (a : Int) (b : Int) = IntKind.i64.wrap (((BitVec.ofInt 64 (a : Int)) ||| (BitVec.ofInt 64 (b : Int))).toNat : Int) := rfl
  rw [hb', BitVec.toNat_or, h1, h2, IntKind.wrap_i64]; omega
/-- Bits that stand behind others. -/
theorem or_add (k a b : Nat) (hb : b < 2 ^ k) (ha : a * 2 ^ k + b < 9223372036854775808) : bits .or .i64 ((a : Int) * 2 ^ k) (b : Int) = ((a * 2 ^ k + b : Nat) : Int) := by
  have e : ((a : Int) * 2 ^ k) = ((a * 2 ^ k : Nat) : Int) := by push_cast; rfl
  rw [e, i64_or_nat _ _ (by omega) (by omega)]
  congr 1
  rw [← Nat.shiftLeft_eq, Nat.shiftLeft_add_eq_or_of_lt hb]
theorem and_mod (k a : Nat) (hk : k < 63) (ha : a < 9223372036854775808) : bits .and .i64 (a : Int) ((2 : Int) ^ k - 1) = ((a % 2 ^ k : Nat) : Int) := by
  have h1 : 0 < 2 ^ k := Nat.two_pow_pos k
  have h2 : 2 ^ k < 2 ^ 63 := Nat.pow_lt_pow_right (by decide) hk
  have e : ((2 : Int) ^ k - 1) = ((2 ^ k - 1 : Nat) : Int) := by
    rw [Int.ofNat_sub h1]; push_cast; rfl
  rw [e, i64_and_nat _ _ ha (by omega), Nat.and_two_pow_sub_one_eq_mod]
theorem wrap_c (c : UInt8) : wrap64 (c.toNat : Int) = (c.toNat : Int) := IntWalk.wrap64_in _ (by have := c.toNat_lt; omega)
/-- Bytes in memory of one's own, that may be made longer. -/
def Own (base : Nat) (v : Value) (X : List UInt8) (W0 w : World) : Prop := OwnBuf base 5 v X.length (X.map B) W0 w
theorem Own.nil (w : World) : Own w.heap.size (.slice none 0 0) [] w w := ⟨World.ownsRowF_nil _ _ _ _, Below.refl _ _, Nat.le_refl _⟩
theorem Own.drewN {base : Nat} {v : Value} {X : List UInt8} {W0 w : World} (h : Own base v X W0 w) (q : Nat) : Own base v X W0 (w.drewN q) := OwnBuf.drewN h q
theorem Own.alloc {base : Nat} {v : Value} {X : List UInt8} {W0 w : World} (h : Own base v X W0 w) (o : Obj) : Own base v X W0 (w.alloc o) := OwnBuf.alloc h o
theorem push {ops : Array Oper} {rest : List Oper} {o : Oper} {a : Act} {Q : Exit → Act → World → Prop} (hgd : o.guard = none) (s x : Operand)
    (ho : o.op = .call { callee := .builtin .append, args := #[s, x], argTypes := #[79, 79] })
    (base : Nat) (v : Value) (X : List UInt8) (hs : a.eval s = v) (W0 w0 : World) (ci : Int) (c : UInt8) (hci : ci = (c.toNat : Int)) (hb : Own base v X W0 w0)
    (hx : a.eval x = .slice (some ⟨w0.heap.size, 0, none⟩) 1 1) (hlen : X.length + 1 ≤ 140737488355328)
    (h : ∀ v' w', Own base v' (X ++ [c]) W0 w' → wpList Tryz.prog ops Q rest (a.put o.dst v') w') : wpList Tryz.prog ops Q (o :: rest) a (w0.alloc (.cells #[.int .u8 ci] 5)) := by
  obtain ⟨i0, hi, hz0, hz1, hz2⟩ := info_parts info5
  refine wpList_append_byte hgd s x 79 ho base 5 i0 Tryz.underlying79 hi hz0 hz1 hz2 v X.length (X.map B) hs W0 w0 ci hb hx hlen ?_
  intro v' w' hb'
  refine h v' w' ?_
  subst hci
  unfold Own
  rw [List.length_append, List.map_append]
  exact hb'
theorem pushText {ops : Array Oper} {rest : List Oper} {o : Oper} {a : Act} {Q : Exit → Act → World → Prop} {w : World} (hgd : o.guard = none) (sl x : Operand)
    (ho : o.op = .call { callee := .builtin .append, args := #[sl, x], argTypes := #[79, 9] })
    (base : Nat) (v : Value) (X : List UInt8) (hs : a.eval sl = v) (W0 : World) (hb : Own base v X W0 w) (s : List UInt8) (hx : a.eval x = .string ⟨s.toArray⟩) (hlen : X.length + s.length ≤ 140737488355328)
    (h : ∀ v' w', Own base v' (X ++ s) W0 w' → wpList Tryz.prog ops Q rest (a.put o.dst v') w') : wpList Tryz.prog ops Q (o :: rest) a w := by
  obtain ⟨i0, hi, hz0, hz1, hz2⟩ := info_parts info5
  have hsz : (ByteArray.mk s.toArray).size = s.length := by simp [ByteArray.size]
  refine wpList_append_text hgd sl x 79 9 ho base 5 i0 Tryz.underlying79 Tryz.underlying9 hi hz0 hz1 hz2 v X.length (X.map B) hs W0 hb ⟨s.toArray⟩ hx (by rw [hsz]; exact hlen) ?_
  intro v' w' hb'
  refine h v' w' ?_
  unfold Own
  rw [List.length_append, List.map_append]
  rw [hsz] at hb'
  have e : strCells ⟨s.toArray⟩ = s.map B := by
    simp [strCells, B]
  rw [e] at hb'
  exact hb'
theorem wpList_conv {P : Program} {ops : Array Oper} {rest : List Oper} {o : Oper} {a : Act} {w : World} {Q : Exit → Act → World → Prop} (hgd : o.guard = none) (src dst : TypeId) (x : Operand) (ho : o.op = .convert src dst x)
    (v v' : Value) (hx : a.eval x = v) (hrun : (convert src dst v).run P w = .ok v' w)
    (h : wpList P ops Q rest (a.put o.dst v') w) : wpList P ops Q (o :: rest) a w :=
  wpList_plain hgd fun _ hK => by
    unfold Oper.wp execOp
    simp only [ho, hx, Sem.run_bind, hrun, Result.andThen_ok]
    exact hK _ _ h
theorem fold_push (l : List UInt8) (r : ByteArray) : (l.map fun c => (c.toNat : Int)).foldl (fun r n => r.push (UInt8.ofNat n.toNat)) r = ⟨r.data ++ l.toArray⟩ := by
  induction l generalizing r with
  | nil => simp
  | cons c l ih =>
    simp only [List.map_cons, List.foldl_cons, ih]
    simp [ByteArray.push]
/-- What lies in memory as bytes is the text of them. -/
theorem run_text (w : World) (g o len cap : Nat) (l : List UInt8) (hl : l.length = len) (h : ∀ j, j < len → w.cell? ⟨g, o + j, none⟩ = some (.int .u8 ((l.getD j 0).toNat : Int))) :
    (convert 79 9 (.slice (some ⟨g, o, none⟩) len cap)).run Tryz.prog w = .ok (.string ⟨l.toArray⟩) w := by
  rw [run_convert_bytes_string w 79 9 5 _ _ _ Tryz.underlying79 Tryz.underlying5 Tryz.underlying9]
  have hload : (loadCells ⟨g, o, none⟩ len).run Tryz.prog w = .ok ((l.map fun c => (c.toNat : Int)).map (Value.int .u8)).toArray w := by
    have := run_loadCells_list (P := Tryz.prog) w ⟨g, o, none⟩ ((l.map fun c => (c.toNat : Int)).map (Value.int .u8)) (fun j v hv => by
      have hadd : (⟨g, o, none⟩ : Addr).add j = ⟨g, o + j, none⟩ := by unfold Addr.add; split <;> simp_all
      rw [hadd]
      have hj : j < len := by
        have := (List.getElem?_eq_some_iff.1 hv).1
        simpa [hl] using this
      rw [h j hj, ← hv]
      simp [List.getElem?_map, List.getElem?_eq_getElem (by omega : j < l.length)])
    simpa [hl] using this
  rw [run_bytesToString w _ _ _ _ hload, fold_push]
  simp
theorem run_text_nil (w : World) : (convert 79 9 (.slice none 0 0)).run Tryz.prog w = .ok (.string ⟨(([] : List UInt8)).toArray⟩) w := by kernel_rfl
theorem Own.text {base : Nat} {v : Value} {X : List UInt8} {W0 w : World} (h : Own base v X W0 w) : (convert 79 9 v).run Tryz.prog w = .ok (.string ⟨X.toArray⟩) w := by
  have hc := fun {g : Nat} (hg : v.ownBlock = some g) => h.1.cells hg
  rcases h.1.2 with ⟨e, q⟩ | ⟨g, cap, cur, fz, e1, e2⟩
  · subst e
    have : X = [] := List.eq_nil_of_length_eq_zero q
    subst this
    exact run_text_nil w
  · subst e1
    refine run_text w g 0 X.length cap X rfl ?_
    intro j hj
    rw [Nat.zero_add]
    have := hc (g := g) rfl j (B (X.getD j 0)) (by simp [hj])
    have hadd : (⟨g, 0, none⟩ : Addr).add j = ⟨g, j, none⟩ := by unfold Addr.add; split <;> simp_all
    rw [hadd] at this
    exact this
theorem Own.len {base : Nat} {v : Value} {X : List UInt8} {W0 w : World} (h : Own base v X W0 w) : (∃ p cap, v = .slice p X.length cap) := by
  rcases h.1.2 with ⟨e, q⟩ | ⟨g, cap, cur, fz, e1, e2⟩
  · exact ⟨none, 0, by rw [e, q]⟩
  · exact ⟨_, cap, e1⟩
/-- make([]byte, 0, n). -/
theorem makeBuf {ops : Array Oper} {rest : List Oper} {o : Oper} {a : Act} {w : World} {Q : Exit → Act → World → Prop} (hgd : o.guard = none) (l c : Operand) (hop : o.op = Op.makeSlice 79 l c)
    (C : Int) (n : Nat) (hl : a.eval l = .int .i64 0) (hc : a.eval c = .int .i64 C) (hC : C = (n : Int)) (hn : n ≤ 140737488355328)
    (h : ∀ w' v, Own w.heap.size v [] w w' → wpList Tryz.prog ops Q rest (a.put o.dst v) w') : wpList Tryz.prog ops Q (o :: rest) a w := by
  obtain ⟨i0, hi, hz0, hz1, hz2⟩ := info_parts info5
  refine wpList_make_own w hgd l c 79 hop w.heap.size 5 i0 (.int .u8 0) 1 Tryz.underlying79 hi hz0 hz1 .i64 .i64 C n hl hc hC (by rw [hz2]; omega) (by unfold maxLen; omega) (Nat.le_refl _) ?_
  intro w' ho hg
  exact h w' _ ⟨World.ownsRowF_of ho, (Below.refl _ _).grown hg (Nat.le_refl _) (fun k e => by cases e), hg.size⟩
theorem take_snoc (l : List UInt8) (k : Nat) (h : k < l.length) : l.take (k + 1) = l.take k ++ [l[k]] := List.take_succ_eq_append_getElem h
end Go.Proofs.YtllialbdofklgaaGreatDoor
