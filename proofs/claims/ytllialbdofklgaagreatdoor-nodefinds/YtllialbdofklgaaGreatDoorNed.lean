import Derived.Test.YtllialbdofklgaaGreatDoorNec
import Derived.OwnWalk
import Derived.BigQuiet
namespace Go.Proofs.YtllialbdofklgaaGreatDoor
open Go.RowKit
set_option maxHeartbeats 4000000
set_option maxRecDepth 8000
def cellsI (l : List Int) : Array Value := (l.map fun x => I x).toArray
/-- A block that holds numbers and nothing else. -/
def BlI (g : Nat) (l : List Int) (w : World) : Prop := w.heap[g]? = some (.cells (cellsI l) 3 (0, 0))
theorem cellsI_list (l : List Int) : (cellsI l).toList = l.map fun x => I x := by simp [cellsI]
theorem cellsI_size (l : List Int) : (cellsI l).size = l.length := by simp [cellsI]
theorem BlI.at {g : Nat} {l : List Int} {w : World} (h : BlI g l w) (j : Nat) (hj : j < l.length) : w.cell? ⟨g, j, none⟩ = some (I (l.getD j 0)) := by
  rw [cell_of_row w g j _ 3 (0, 0) h]
  simp [cellsI, hj]
theorem BlI.part {g : Nat} {l m : List Int} {w : World} (h : BlI g (l ++ m) w) : Ins w (some ⟨g, 0, none⟩) l.length l := by
  refine ⟨rfl, fun _ => ⟨g, 0, rfl, fun j hj => ?_⟩⟩
  rw [Nat.zero_add, h.at j (by simp; omega)]
  rw [List.getD_eq_getElem?_getD, List.getElem?_append_left hj, List.getD_eq_getElem?_getD]
theorem BlI.keep {g : Nat} {l : List Int} {w w' : World} (h : BlI g l w) (k : Below w.heap.size w w') : BlI g l w' := by
  unfold BlI
  rw [k.block g (Array.getElem?_eq_some_iff.1 h).1]
  exact h
theorem BlI.lt {g : Nat} {l : List Int} {w : World} (h : BlI g l w) : g < w.heap.size := (Array.getElem?_eq_some_iff.1 h).1
theorem made3i (m : Nat) : (madeCells #[I 0] m).toList = List.replicate m (I 0) := by
  unfold madeCells
  apply List.ext_getElem
  · simp
  · intro i h1 h2
    simp [Nat.mod_one]
theorem makeI {ops : Array Oper} {rest : List Oper} {o : Oper} {a : Act} {w : World} {Q : Exit → Act → World → Prop} (hgd : o.guard = none) (l c : Operand) (hop : o.op = Op.makeSlice 23 l c)
    (L C : Int) (n : Nat) (hl : a.eval l = .int .i64 L) (hc : a.eval c = .int .i64 C) (hL : L = (n : Int)) (hC : C = (n : Int)) (hn : 8 * n ≤ 281474976710656)
    (h : ∀ w', BlI w.heap.size (List.replicate n 0) w' → Below w.heap.size w w' → wpList Tryz.prog ops Q rest (a.put o.dst (.slice (some ⟨w.heap.size, 0, none⟩) n n)) w') : wpList Tryz.prog ops Q (o :: rest) a w := by
  obtain ⟨i0, hi, hz0, hz1, hz2⟩ := info_parts info3
  refine wpList_make_full w hgd l c 23 hop w.heap.size 3 i0 _ 1 Tryz.underlying23 hi hz0 hz1 .i64 .i64 L C n hl hc hL hC (by rw [hz2]; omega) (by unfold maxLen; omega) (Nat.le_refl _) ?_
  intro w' ho hg
  refine h w' ?_ ((Below.refl _ _).grown hg (Nat.le_refl _) (fun k e => by cases e))
  rcases ho.2 with ⟨e, _⟩ | ⟨g, cap, cur, e, _, hgg, _, _, hsz, htk⟩
  · cases e
  · simp only [Value.slice.injEq, Option.some.injEq, Addr.mk.injEq, and_true] at e
    obtain ⟨rfl, rfl⟩ : w.heap.size = g ∧ n = cap := ⟨e.1, e.2.2⟩
    unfold BlI
    rw [hgg]
    have h1 : cur.toList = List.replicate n (I 0) := by
      have h2 : cur.toList.take (n * 1) = cur.toList := List.take_of_length_le (by simp; omega)
      rw [← h2, htk, Nat.mul_one]
      exact made3i n
    have e3 : cellsI (List.replicate n 0) = cur := by
      rw [← Array.toList_inj, cellsI_list, h1]
      simp
    rw [e3]
theorem run_copy1i (w : World) (ty : TypeId) (g dLen dCap : Nat) (a : Addr) (sLen sCap : Nat) (cur : Array Value) (cs : List Value) (m : Nat) (hm : m = Nat.min sLen dLen)
    (hg : w.heap[g]? = some (.cells cur 3 (0, 0))) (hn : cs.length = m)
    (hsrc : ∀ j v, cs[j]? = some v → w.cell? (a.add j) = some v) (hfit : cs.length ≤ cur.size) (h1 : ∀ v ∈ cs, v.oneCell' = true) :
    (Builtin.copy_ #[23, 23] ty #[.slice (some ⟨g, 0, none⟩) dLen dCap, .slice (some a) sLen sCap]).run Tryz.prog w =
      .ok (goInt m) (w.setRow g (cs ++ cur.toList.drop cs.length).toArray) := by
  have hl := run_loadCells_list (P := Tryz.prog) w a cs hsrc
  have hst := run_storeCells_at Tryz.prog g 0 3 cs 0 cur w hg (by simpa using hfit) h1
  obtain ⟨i0, hi, hz0, hz1, hz2⟩ := info_parts info3
  rw [hn] at hl
  simp only [Nat.zero_add, List.take_zero, List.nil_append] at hst
  simp [Builtin.copy_, run_underlying Tryz.underlying23, Builtin.lenOf, Builtin.firstCells, sizeOf, typeInfo, hi, hz1, ← hm, hl, hst]
/-- copy of numbers into a block of one's own. -/
theorem copyI {ops : Array Oper} {rest : List Oper} {o : Oper} {a : Act} {w : World} {Q : Exit → Act → World → Prop} (hgd : o.guard = none) (d s : Operand)
    (ho : o.op = .call { callee := .builtin .copy, args := #[d, s], argTypes := #[23, 23] }) (g dn dcap : Nat) (sp : Option Addr) (sn scap : Nat) (hd : a.eval d = .slice (some ⟨g, 0, none⟩) dn dcap) (hs : a.eval s = .slice sp sn scap)
    (fs gs : List Int) (hb : BlI g fs w) (hf : Ins w sp sn gs) (hnone : sp = none → scap = 0) (hdn : dn ≤ fs.length)
    (h : ∀ w', BlI g (gs.take (min sn dn) ++ fs.drop (min sn dn)) w' → Only (fun k => k = g) w w' → wpList Tryz.prog ops Q rest (a.put o.dst (goInt (min sn dn : Nat))) w') : wpList Tryz.prog ops Q (o :: rest) a w := by
  refine wpList_plain hgd fun K hK => ?_
  have key : ∃ w', (Builtin.copy_ #[23, 23] o.type #[.slice (some ⟨g, 0, none⟩) dn dcap, .slice sp sn scap]).run Tryz.prog w = .ok (goInt (min sn dn : Nat)) w' ∧ BlI g (gs.take (min sn dn) ++ fs.drop (min sn dn)) w' ∧ Only (fun k => k = g) w w' := by
    have h9 : ((Tryz.prog.info? 3).map (·.size)).isSome = true := by kernel_rfl
    cases sp with
    | none =>
      have hsn : sn = 0 := by
        rcases Nat.eq_zero_or_pos sn with h0 | h0
        · exact h0
        · obtain ⟨p, o, e, _⟩ := hf.2 h0
          cases e
      have hsc := hnone rfl
      subst hsn hsc
      refine ⟨w, ?_, ?_, Only.refl _ _⟩
      · rw [run_copy_nil (P := Tryz.prog) w 23 23 o.type 3 ⟨g, 0, none⟩ dn dcap Tryz.underlying23 h9]
        simp
      · simpa using hb
    | some ad =>
      obtain ⟨m, hm⟩ : ∃ m, m = min sn dn := ⟨_, rfl⟩
      rw [← hm]
      have hl : ((gs.take m).length) = m := by rw [List.length_take, ← hf.1]; omega
      have hcl : ((gs.take m).map fun x => I x).length = m := by rw [List.length_map, hl]
      have hrun := run_copy1i w o.type g dn dcap ad sn scap (cellsI fs) ((gs.take m).map fun x => I x) m hm hb hcl (by
        intro j v hv
        have hj : j < m := by have := (List.getElem?_eq_some_iff.1 hv).1; omega
        obtain ⟨p, o, e, hcells⟩ := hf.2 (by omega)
        cases e
        have hadd : (⟨p, o, none⟩ : Addr).add j = ⟨p, o + j, none⟩ := by unfold Addr.add; split <;> simp_all
        rw [hadd, hcells j (by omega), ← hv]
        have hjl : j < gs.length := by rw [← hf.1]; omega
        simp [hj, hjl]) (by rw [hcl, cellsI_size]; omega) (by intro v hv; obtain ⟨x, _, rfl⟩ := List.mem_map.1 hv; rfl)
      refine ⟨_, hrun, ?_, ⟨rfl, rfl, rfl, by simp [World.setRow], fun k _ hk => setRow_other w g k _ hk⟩⟩
      unfold BlI
      rw [setRow_heap w g _ _ 3 _ hb, hcl, cellsI_list]
      simp [cellsI, List.map_drop]
  obtain ⟨w', hrun, hb', hk⟩ := key
  unfold Oper.wp
  simp [execOp, ho, resolve, invoke, builtin, hd, hs, hrun, Result.andThen]
  exact hK _ _ (h w' hb' hk)
theorem BlI.set {g : Nat} {l : List Int} {w : World} (h : BlI g l w) (k : Nat) (x : Int) : BlI g (l.set k x) (w.setCell ⟨g, k, none⟩ (I x)) := by
  unfold BlI
  rw [heap_setCell_same w g k _ 3 _ h]
  have e : cellsI (l.set k x) = (cellsI l).setIfInBounds k (I x) := by
    rw [← Array.toList_inj, cellsI_list, Array.toList_setIfInBounds, cellsI_list, List.map_set]
  rw [e]
/-- What a lent list ends with, k of its eight cells laid. -/
def sp4 (k : Nat) : List Int := List.replicate k (-77) ++ List.replicate (4 - k) 0
theorem sp4_set (l : List Int) (k : Nat) (hk : k < 4) : (l ++ sp4 k).set (l.length + k) (-77) = l ++ sp4 (k + 1) := by
  rw [List.set_append_right _ _ (by omega), Nat.add_sub_cancel_left]
  congr 1
  unfold sp4
  rw [List.set_append_right _ _ (by simp), List.length_replicate, Nat.sub_self, show 4 - k = (4 - (k + 1)) + 1 by omega, List.replicate_succ, List.set_cons_zero, List.replicate_succ', List.append_assoc]
  rfl
theorem sp4_len (k : Nat) (hk : k ≤ 4) : (sp4 k).length = 4 := by unfold sp4; rw [List.length_append, List.length_replicate, List.length_replicate]; omega
theorem lentI_any (a : Option Addr) (n cap : Nat) (l : List Int) (w : World) (hp : Ins w a n l) (hnone : a = none → cap = 0) (hn : n ≤ 1000000000000) :
    Calls Tryz.prog 19 #[.slice a n cap] w fun e w' => e = .returned (.slice (some ⟨w.heap.size, 0, none⟩) (n + 4) (n + 4)) ∧ BlI w.heap.size (l ++ List.replicate 4 (-77)) w' ∧ Below w.heap.size w w' := by
  have HN := hide hp.1
  have HP := hide hp
  have HO := hide hnone
  clear hp hnone
  go_enter Tryz.func19, Tryz.ntmps19
  go_wp2_with (first
    | (refine makeI rfl (.tmp 7) (.tmp 7) rfl _ _ (n + 4) (by rfl) (by rfl) (by omega) (by omega) (by omega) ?_; intro w1 hb1 k1; have HB1 := hide hb1; have HK1 := hide k1; clear hb1 k1)
    | (refine copyI rfl (.tmp 9) (.tmp 10) rfl w.heap.size (n + 4) (n + 4) a n cap (by rfl) (by rfl) _ l (unhide HB1) ((unhide HP).below (unhide HK1)) (unhide HO) (by simp) ?_; intro w2 hb2 o2; have HB2 := hide hb2; have HO2 := hide o2; clear hb2 o2))
  have HB3 : Hid (BlI w.heap.size (l ++ sp4 0) w2) := hide (by
    have := unhide HB2
    rw [Nat.min_eq_left (by omega), List.take_of_length_le (by have := unhide HN; omega), List.drop_replicate, show n + 4 - n = 4 by omega] at this
    exact this)
  have HK2 : Hid (Below w.heap.size w w2) := hide ((unhide HO2).below (unhide HK1) (unhide HK1).size (fun i e => by omega))
  clear HB1 HB2 HK1 HO2
  go_loopw [4] (fun i wr => ∃ k : Nat, k ≤ 4 ∧ i = .int .i64 ((n + k : Nat) : Int) ∧ Hid (BlI w.heap.size (l ++ sp4 k) wr) ∧ Hid (Below w.heap.size w wr)) (fun i _ => n + 4 - (Go.RowKit.intOf i).toNat)
  case atStart => exact ⟨0, by omega, by simp, HB3, HK2⟩
  case round =>
    clear HB3 HK2
    obtain ⟨k, hk, rfl, HB, HK⟩ := hrel
    by_cases hlt : k < 4
    · have hlt' : ((n + k : Nat) : Int) < ((n + 4 : Nat) : Int) := by omega
      have hs := (unhide HB).set (n + k) (-77)
      rw [unhide HN, sp4_set l k hlt, ← unhide HN] at hs
      have hc := (unhide HB).at (n + k) (by rw [List.length_append, sp4_len k (by omega), ← unhide HN]; omega)
      have hf := frz (unhide HB) (n + k)
      have hz := (unhide HB).lt
      have HS := hide hs
      have HK2 := hide ((unhide HK).setCell (p := ⟨w.heap.size, n + k, none⟩) (Nat.le_refl _) (I (-77)))
      clear hs HB HK
      generalize List.getD (l ++ sp4 k) (n + k) 0 = x at *
      go_wp2
      go_round
      case measure => simp [Go.RowKit.intOf]; omega
      case rel => exact ⟨k + 1, by omega, by simp; omega, HS, HK2⟩
    · obtain rfl : k = 4 := by omega
      have hlt' : ¬ ((n + 4 : Nat) : Int) < ((n + 4 : Nat) : Int) := by omega
      go_wp2
      go_ret
      exact ⟨rfl, unhide HB, unhide HK⟩
end Go.Proofs.YtllialbdofklgaaGreatDoor
