import Derived.Test.YteahenojgcffpaaCke
import Derived.OwnWalk
import Derived.BigQuiet
namespace Go.Proofs.Yteahenojgcffpaa
open Go.RowKit
set_option maxHeartbeats 4000000
set_option maxRecDepth 8000
theorem info3 : (Try.prog.info? 3).map (fun i => (i.zero, i.size, i.bytes)) = some (some (I 0), 1, 8) := by kernel_rfl
def cellsI (l : List Int) : Array Value := (l.map fun x => I x).toArray
/-- A block that holds numbers and nothing else. -/
def Blk (g : Nat) (l : List Int) (w : World) : Prop := w.heap[g]? = some (.cells (cellsI l) 3 (0, 0))
theorem cellsI_list (l : List Int) : (cellsI l).toList = l.map fun x => I x := by simp [cellsI]
theorem cellsI_size (l : List Int) : (cellsI l).size = l.length := by simp [cellsI]
theorem Blk.at {g : Nat} {l : List Int} {w : World} (h : Blk g l w) (j : Nat) (hj : j < l.length) : w.cell? ⟨g, j, none⟩ = some (I (l.getD j 0)) := by
  rw [cell_of_row w g j _ 3 (0, 0) h]
  simp [cellsI, hj]
theorem Blk.part {g : Nat} {l m : List Int} {w : World} (h : Blk g (l ++ m) w) : Ns w (some ⟨g, 0, none⟩) l.length l := by
  refine ⟨rfl, fun _ => ⟨g, 0, rfl, fun j hj => ?_⟩⟩
  rw [Nat.zero_add, h.at j (by simp; omega)]
  rw [List.getD_eq_getElem?_getD, List.getElem?_append_left hj, List.getD_eq_getElem?_getD]
theorem Blk.keep {g : Nat} {l : List Int} {w w' : World} (h : Blk g l w) (k : Below w.heap.size w w') : Blk g l w' := by
  unfold Blk
  rw [k.block g (Array.getElem?_eq_some_iff.1 h).1]
  exact h
theorem Blk.lt {g : Nat} {l : List Int} {w : World} (h : Blk g l w) : g < w.heap.size := (Array.getElem?_eq_some_iff.1 h).1
theorem made3 (m : Nat) : (madeCells #[I 0] m).toList = List.replicate m (I 0) := by
  unfold madeCells
  apply List.ext_getElem
  · simp
  · intro i h1 h2
    simp [Nat.mod_one]
theorem makeI {ops : Array Oper} {rest : List Oper} {o : Oper} {a : Act} {w : World} {Q : Exit → Act → World → Prop} (hgd : o.guard = none) (l c : Operand) (hop : o.op = Op.makeSlice 33 l c)
    (L C : Int) (n : Nat) (hl : a.eval l = .int .i64 L) (hc : a.eval c = .int .i64 C) (hL : L = (n : Int)) (hC : C = (n : Int)) (hn : 8 * n ≤ 281474976710656)
    (h : ∀ w', Blk w.heap.size (List.replicate n 0) w' → Below w.heap.size w w' → wpList Try.prog ops Q rest (a.put o.dst (.slice (some ⟨w.heap.size, 0, none⟩) n n)) w') : wpList Try.prog ops Q (o :: rest) a w := by
  obtain ⟨i0, hi, hz0, hz1, hz2⟩ := info_parts info3
  refine wpList_make_full w hgd l c 33 hop w.heap.size 3 i0 _ 1 Try.underlying33 hi hz0 hz1 .i64 .i64 L C n hl hc hL hC (by rw [hz2]; omega) (by unfold maxLen; omega) (Nat.le_refl _) ?_
  intro w' ho hg
  refine h w' ?_ ((Below.refl _ _).grown hg (Nat.le_refl _) (fun k e => by cases e))
  rcases ho.2 with ⟨e, _⟩ | ⟨g, cap, cur, e, _, hgg, _, _, hsz, htk⟩
  · cases e
  · simp only [Value.slice.injEq, Option.some.injEq, Addr.mk.injEq, and_true] at e
    obtain ⟨rfl, rfl⟩ : w.heap.size = g ∧ n = cap := ⟨e.1, e.2.2⟩
    unfold Blk
    rw [hgg]
    have h1 : cur.toList = List.replicate n (I 0) := by
      have h2 : cur.toList.take (n * 1) = cur.toList := List.take_of_length_le (by simp; omega)
      rw [← h2, htk, Nat.mul_one]
      exact made3 n
    have e3 : cellsI (List.replicate n 0) = cur := by
      rw [← Array.toList_inj, cellsI_list, h1]
      simp
    rw [e3]
theorem run_copy1 (w : World) (ty : TypeId) (g dLen dCap : Nat) (a : Addr) (sLen sCap : Nat) (cur : Array Value) (cs : List Value) (m : Nat) (hm : m = Nat.min sLen dLen)
    (hg : w.heap[g]? = some (.cells cur 3 (0, 0))) (hn : cs.length = m)
    (hsrc : ∀ j v, cs[j]? = some v → w.cell? (a.add j) = some v) (hfit : cs.length ≤ cur.size) (h1 : ∀ v ∈ cs, v.oneCell' = true) :
    (Builtin.copy_ #[33, 33] ty #[.slice (some ⟨g, 0, none⟩) dLen dCap, .slice (some a) sLen sCap]).run Try.prog w =
      .ok (goInt m) (w.setRow g (cs ++ cur.toList.drop cs.length).toArray) := by
  have hl := run_loadCells_list (P := Try.prog) w a cs hsrc
  have hst := run_storeCells_at Try.prog g 0 3 cs 0 cur w hg (by simpa using hfit) h1
  obtain ⟨i0, hi, hz0, hz1, hz2⟩ := info_parts info3
  rw [hn] at hl
  simp only [Nat.zero_add, List.take_zero, List.nil_append] at hst
  simp [Builtin.copy_, run_underlying Try.underlying33, Builtin.lenOf, Builtin.firstCells, sizeOf, typeInfo, hi, hz1, ← hm, hl, hst]
/-- copy of numbers into a block of one's own. -/
theorem copyI {ops : Array Oper} {rest : List Oper} {o : Oper} {a : Act} {w : World} {Q : Exit → Act → World → Prop} (hgd : o.guard = none) (d s : Operand)
    (ho : o.op = .call { callee := .builtin .copy, args := #[d, s], argTypes := #[33, 33] }) (g dn dcap : Nat) (sp : Option Addr) (sn scap : Nat) (hd : a.eval d = .slice (some ⟨g, 0, none⟩) dn dcap) (hs : a.eval s = .slice sp sn scap)
    (fs gs : List Int) (hb : Blk g fs w) (hf : Ns w sp sn gs) (hnone : sp = none → scap = 0) (hdn : dn ≤ fs.length)
    (h : ∀ w', Blk g (gs.take (min sn dn) ++ fs.drop (min sn dn)) w' → Only (fun k => k = g) w w' → wpList Try.prog ops Q rest (a.put o.dst (goInt (min sn dn : Nat))) w') : wpList Try.prog ops Q (o :: rest) a w := by
  refine wpList_plain hgd fun K hK => ?_
  have key : ∃ w', (Builtin.copy_ #[33, 33] o.type #[.slice (some ⟨g, 0, none⟩) dn dcap, .slice sp sn scap]).run Try.prog w = .ok (goInt (min sn dn : Nat)) w' ∧ Blk g (gs.take (min sn dn) ++ fs.drop (min sn dn)) w' ∧ Only (fun k => k = g) w w' := by
    have h9 : ((Try.prog.info? 3).map (·.size)).isSome = true := by kernel_rfl
    cases sp with
    | none =>
      have hsn : sn = 0 := by
        rcases Nat.eq_zero_or_pos sn with h0 | h0
        · exact h0
        · obtain ⟨p, o, e, _⟩ := hf.2 h0
          cases e
      have hsc := hnone rfl
      subst hsn hsc
      refine ⟨w, ?_, ?_, Only.refl _ _⟩
      · rw [run_copy_nil (P := Try.prog) w 33 33 o.type 3 ⟨g, 0, none⟩ dn dcap Try.underlying33 h9]
        simp
      · simpa using hb
    | some ad =>
      obtain ⟨m, hm⟩ : ∃ m, m = min sn dn := ⟨_, rfl⟩
      rw [← hm]
      have hl : ((gs.take m).length) = m := by rw [List.length_take, ← hf.1]; omega
      have hcl : ((gs.take m).map fun x => I x).length = m := by rw [List.length_map, hl]
      have hrun := run_copy1 w o.type g dn dcap ad sn scap (cellsI fs) ((gs.take m).map fun x => I x) m hm hb hcl (by
        intro j v hv
        have hj : j < m := by have := (List.getElem?_eq_some_iff.1 hv).1; omega
        obtain ⟨p, o, e, hcells⟩ := hf.2 (by omega)
        cases e
        have hadd : (⟨p, o, none⟩ : Addr).add j = ⟨p, o + j, none⟩ := by unfold Addr.add; split <;> simp_all
        rw [hadd, hcells j (by omega), ← hv]
        have hjl : j < gs.length := by rw [← hf.1]; omega
        simp [hj, hjl]) (by rw [hcl, cellsI_size]; omega) (by intro v hv; obtain ⟨x, _, rfl⟩ := List.mem_map.1 hv; rfl)
      refine ⟨_, hrun, ?_, ⟨rfl, rfl, rfl, by simp [World.setRow], fun k _ hk => setRow_other w g k _ hk⟩⟩
      unfold Blk
      rw [setRow_heap w g _ _ 3 _ hb, hcl, cellsI_list]
      simp [cellsI, List.map_drop]
  obtain ⟨w', hrun, hb', hk⟩ := key
  unfold Oper.wp
  simp [execOp, ho, resolve, invoke, builtin, hd, hs, hrun, Result.andThen]
  exact hK _ _ (h w' hb' hk)
theorem Blk.set {g : Nat} {l : List Int} {w : World} (h : Blk g l w) (k : Nat) (x : Int) : Blk g (l.set k x) (w.setCell ⟨g, k, none⟩ (I x)) := by
  unfold Blk
  rw [heap_setCell_same w g k _ 3 _ h]
  have e : cellsI (l.set k x) = (cellsI l).setIfInBounds k (I x) := by
    rw [← Array.toList_inj, cellsI_list, Array.toList_setIfInBounds, cellsI_list, List.map_set]
  rw [e]
def sp2 : List Int := [-77, -78]
theorem lent_laid {g n : Nat} {l : List Int} {w2 : World} (hN : n = l.length) (hb : Blk g (l.take (min n (n + 2)) ++ (List.replicate (n + 2) 0).drop (min n (n + 2))) w2) :
    ∃ o1 o2 : Int, w2.cell? ⟨g, n, none⟩ = some (I o1) ∧ w2.frozen? ⟨g, n, none⟩ = false ∧ (w2.setCell ⟨g, n, none⟩ (I (-77))).cell? ⟨g, n + 1, none⟩ = some (I o2) ∧ (w2.setCell ⟨g, n, none⟩ (I (-77))).frozen? ⟨g, n + 1, none⟩ = false ∧ Blk g (l ++ sp2) ((w2.setCell ⟨g, n, none⟩ (I (-77))).setCell ⟨g, n + 1, none⟩ (I (-78))) := by
  have hb3 : Blk g (l ++ [0, 0]) w2 := by
    have e1 : min n (n + 2) = n := by omega
    rw [e1, List.take_of_length_le (by omega), List.drop_replicate, show n + 2 - n = 2 by omega] at hb
    exact hb
  have hb4 : Blk g (l ++ [-77, 0]) (w2.setCell ⟨g, n, none⟩ (I (-77))) := by
    have := hb3.set n (-77)
    rw [hN, List.set_append, if_neg (by omega), Nat.sub_self] at this
    rw [hN]
    exact this
  have hb5 : Blk g (l ++ sp2) ((w2.setCell ⟨g, n, none⟩ (I (-77))).setCell ⟨g, n + 1, none⟩ (I (-78))) := by
    have := hb4.set (n + 1) (-78)
    rw [hN, List.set_append, if_neg (by omega), show l.length + 1 - l.length = 1 by omega] at this
    rw [hN]
    exact this
  exact ⟨_, _, hb3.at n (by simp; omega), frz hb3 n, hb4.at (n + 1) (by simp; omega), frz hb4 (n + 1), hb5⟩
theorem lent_any (a : Option Addr) (n cap : Nat) (l : List Int) (w : World) (hp : Ns w a n l) (hnone : a = none → cap = 0) (hn : n * 8 ≤ 140737488351232) :
    Calls Try.prog 14 #[.slice a n cap] w fun e w' => e = .returned (.slice (some ⟨w.heap.size, 0, none⟩) n (n + 2)) ∧ Blk w.heap.size (l ++ sp2) w' ∧ Below w.heap.size w w' := by
  have HN := hide hp.1
  have HP := hide hp
  have HO := hide hnone
  clear hp hnone
  have hnn : n ≤ 17592186043904 := by omega
  clear hn
  go_enter Try.func14, Try.ntmps14
  go_wp2_with (first | (refine makeI rfl (.tmp 6) (.tmp 6) rfl _ _ (n + 2) (by rfl) (by rfl) (by omega) (by omega) (by omega) ?_; intro w1 hb1 k1; have HB1 := hide hb1; have HK1 := hide k1; clear hb1 k1) | (refine copyI rfl (.tmp 8) (.tmp 9) rfl w.heap.size (n + 2) (n + 2) a n cap (by rfl) (by rfl) (List.replicate (n + 2) 0) l (unhide HB1) ((unhide HP).below (unhide HK1)) (unhide HO) (by simp) ?_; intro w2 hb2 k2; obtain ⟨o1, o2, h31, h32, h41, h42, hb5⟩ := lent_laid (unhide HN) hb2; have HB5 := hide hb5; have K3 := hide (k2.below (unhide HK1) (unhide HK1).size (fun k e => by omega)); clear hb2 k2 hb5 HB1 HK1))
  go_ret
  refine ⟨rfl, unhide HB5, ?_⟩
  exact ((unhide K3).setCell (p := ⟨w.heap.size, n, none⟩) (Nat.le_refl _) _).setCell (p := ⟨w.heap.size, n + 1, none⟩) (Nat.le_refl _) _
theorem whole_any (g : Nat) (a : Option Addr) (n cap : Nat) (l : List Int) (w : World) (hb : Blk g (l ++ sp2) w) (hp : Ns w a n l) (hn : n ≤ 17592186043904) :
    Calls Try.prog 16 #[.slice (some ⟨g, 0, none⟩) n (n + 2), .slice a n cap] w fun e w' => e = .returned (.bool true) ∧ Below w.heap.size w w' := by
  have HN := hide hp.1
  have HP := hide hp
  have HB := hide hb
  have hc7 : w.cell? ⟨g, n, none⟩ = some (I (-77)) := by
    rw [hb.at n (by have := hp.1; simp [sp2]; omega), List.getD_eq_getElem?_getD, List.getElem?_append_right (by have := hp.1; omega), hp.1, Nat.sub_self]
    rfl
  have hc8 : w.cell? ⟨g, n + 1, none⟩ = some (I (-78)) := by
    rw [hb.at (n + 1) (by have := hp.1; simp [sp2]; omega), List.getD_eq_getElem?_getD, List.getElem?_append_right (by have := hp.1; omega), hp.1, show l.length + 1 - l.length = 1 by omega]
    rfl
  have hgl := hb.lt
  clear hp hb
  go_enter Try.func16, Try.ntmps16
  go_wp2
  go_loopw [5] (fun i wr => ∃ k : Nat, k ≤ n ∧ i = .int .i64 k ∧ Below w.heap.size w wr) (fun i _ => n - (intOf i).toNat)
  case atStart => exact ⟨0, by omega, rfl, Below.refl _ _⟩
  case round =>
    obtain ⟨k, hkn, rfl, hB⟩ := hrel
    have H7 := (hB.cell (p := ⟨g, n, none⟩) hgl).trans hc7
    have H8 := (hB.cell (p := ⟨g, n + 1, none⟩) hgl).trans hc8
    have BB := hide hB
    by_cases hlt : k < n
    · obtain ⟨p, o, rfl, hpl, hc1⟩ := ((unhide HP).below hB).at hlt
      have hc2 : wr.cell? ⟨g, k, none⟩ = some (I (l.getD k 0)) := by
        have := ((unhide HB).part).below hB
        obtain ⟨p', o', e', _, h'⟩ := this.at (by have := unhide HN; omega : k < l.length)
        cases e'
        rw [Nat.zero_add] at h'
        exact h'
      have hgr := blk_lt hc2
      clear hB hc7 hc8 H7 H8
      generalize l.getD k 0 = X at *
      go_wp2_with fail
      go_quiet (fail)
      go_wp2
      refine ⟨⟨k + 1, by omega, by go_num, (unhide BB).trans ⟨rfl, rfl, rfl, Nat.le_refl _, fun _ _ => rfl⟩⟩, ?_⟩
      simp [intOf]; omega
    · have hklt : ¬ (k : Int) < (n : Int) := by omega
      clear hB hc7 hc8
      have hgr := blk_lt H7
      go_wp2
      go_ret
      exact ⟨rfl, unhide BB⟩
end Go.Proofs.Yteahenojgcffpaa
