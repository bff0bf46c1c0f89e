import Derived.Test.YtllialbdofklgaaGreatDoorNeb
import Derived.Laws.CopyRow
import Derived.Laws.MakeOwn
namespace Go.Proofs.YtllialbdofklgaaGreatDoor
open Go.RowKit Go.Lib
def cellsS (l : List Bs) : Array Value := (l.map fun x => S x).toArray
/-- A block that holds texts and nothing else. -/
def Blk (g : Nat) (l : List Bs) (w : World) : Prop := w.heap[g]? = some (.cells (cellsS l) 9 (0, 0))
theorem cellsS_list (l : List Bs) : (cellsS l).toList = l.map fun x => S x := by simp [cellsS]
theorem cellsS_size (l : List Bs) : (cellsS l).size = l.length := by simp [cellsS]
theorem Blk.at {g : Nat} {l : List Bs} {w : World} (h : Blk g l w) (j : Nat) (hj : j < l.length) : w.cell? ⟨g, j, none⟩ = some (S (l.getD j [])) := by
  rw [cell_of_row w g j _ 9 (0, 0) h]
  simp [cellsS, hj]
theorem Blk.sts {g : Nat} {l : List Bs} {w : World} (h : Blk g l w) : Sts w (some ⟨g, 0, none⟩) l.length l := by
  refine ⟨rfl, fun _ => ⟨g, 0, rfl, fun j hj => ?_⟩⟩
  rw [Nat.zero_add]
  exact h.at j hj
theorem Blk.keep {g : Nat} {l : List Bs} {w w' : World} (h : Blk g l w) (k : Below w.heap.size w w') : Blk g l w' := by
  unfold Blk
  rw [k.block g (Array.getElem?_eq_some_iff.1 h).1]
  exact h
theorem Blk.lt {g : Nat} {l : List Bs} {w : World} (h : Blk g l w) : g < w.heap.size := (Array.getElem?_eq_some_iff.1 h).1
theorem Sts.take {w : World} {a : Option Addr} {n : Nat} {l : List Bs} (h : Sts w a n l) (m : Nat) (hm : m ≤ n) : Sts w a m (l.take m) := by
  refine ⟨by rw [List.length_take, ← h.1]; omega, fun h0 => ?_⟩
  obtain ⟨p, o, e, hc⟩ := h.2 (by omega)
  refine ⟨p, o, e, fun j hj => ?_⟩
  have e2 : (l.take m).getD j [] = l.getD j [] := by
    rw [List.getD_eq_getElem?_getD, List.getD_eq_getElem?_getD, List.getElem?_take, if_pos hj]
  rw [e2]
  exact hc j (by omega)
/-- make([]string, n). -/
theorem makeS {ops : Array Oper} {rest : List Oper} {o : Oper} {a : Act} {w : World} {Q : Exit → Act → World → Prop} (hgd : o.guard = none) (l c : Operand) (hop : o.op = Op.makeSlice 22 l c)
    (L C : Int) (n : Nat) (hl : a.eval l = .int .i64 L) (hc : a.eval c = .int .i64 C) (hL : L = (n : Int)) (hC : C = (n : Int)) (hn : n ≤ 1000000000000)
    (h : ∀ w', Blk w.heap.size (List.replicate n []) w' → Below w.heap.size w w' → wpList Tryz.prog ops Q rest (a.put o.dst (.slice (some ⟨w.heap.size, 0, none⟩) n n)) w') : wpList Tryz.prog ops Q (o :: rest) a w := by
  obtain ⟨i0, hi, hz0, hz1, hz2⟩ := info_parts info9
  refine wpList_make_full w hgd l c 22 hop w.heap.size 9 i0 _ 1 Tryz.underlying22 hi hz0 hz1 .i64 .i64 L C n hl hc hL hC (by rw [hz2]; omega) (by unfold maxLen; omega) (Nat.le_refl _) ?_
  intro w' ho hg
  refine h w' ?_ ((Below.refl _ _).grown hg (Nat.le_refl _) (fun k e => by cases e))
  rcases ho.2 with ⟨e, _⟩ | ⟨g, cap, cur, e, _, hgg, _, _, hsz, htk⟩
  · cases e
  · simp only [Value.slice.injEq, Option.some.injEq, Addr.mk.injEq, and_true] at e
    obtain ⟨rfl, rfl⟩ : w.heap.size = g ∧ n = cap := ⟨e.1, e.2.2⟩
    unfold Blk
    rw [hgg]
    have h1 : cur.toList = List.replicate n (S []) := by
      have h2 : cur.toList.take (n * 1) = cur.toList := List.take_of_length_le (by simp; omega)
      rw [← h2, htk, Nat.mul_one]
      exact made9 n
    have e3 : cellsS (List.replicate n []) = cur := by
      rw [← Array.toList_inj, cellsS_list, h1]
      simp
    rw [e3]
theorem run_copy1 (w : World) (ty : TypeId) (g dLen dCap : Nat) (a : Addr) (sLen sCap : Nat) (cur : Array Value) (cs : List Value) (m : Nat) (hm : m = Nat.min sLen dLen)
    (hg : w.heap[g]? = some (.cells cur 9 (0, 0))) (hn : cs.length = m)
    (hsrc : ∀ j v, cs[j]? = some v → w.cell? (a.add j) = some v) (hfit : cs.length ≤ cur.size) (h1 : ∀ v ∈ cs, v.oneCell' = true) :
    (Builtin.copy_ #[22, 22] ty #[.slice (some ⟨g, 0, none⟩) dLen dCap, .slice (some a) sLen sCap]).run Tryz.prog w =
      .ok (goInt m) (w.setRow g (cs ++ cur.toList.drop cs.length).toArray) := by
  have hl := run_loadCells_list (P := Tryz.prog) w a cs hsrc
  have hst := run_storeCells_at Tryz.prog g 0 9 cs 0 cur w hg (by simpa using hfit) h1
  obtain ⟨i0, hi, hz0, hz1, hz2⟩ := info_parts info9
  rw [hn] at hl
  simp only [Nat.zero_add, List.take_zero, List.nil_append] at hst
  simp [Builtin.copy_, run_underlying Tryz.underlying22, Builtin.lenOf, Builtin.firstCells, sizeOf, typeInfo, hi, hz1, ← hm, hl, hst]
/-- copy of texts into a block of one's own. -/
theorem copyS {ops : Array Oper} {rest : List Oper} {o : Oper} {a : Act} {w : World} {Q : Exit → Act → World → Prop} (hgd : o.guard = none) (d s : Operand)
    (ho : o.op = .call { callee := .builtin .copy, args := #[d, s], argTypes := #[22, 22] }) (g dn dcap : Nat) (sp : Option Addr) (sn scap : Nat) (hd : a.eval d = .slice (some ⟨g, 0, none⟩) dn dcap) (hs : a.eval s = .slice sp sn scap)
    (fs gs : List Bs) (hb : Blk g fs w) (hf : Sts w sp sn gs) (hnone : sp = none → scap = 0) (hdn : dn ≤ fs.length)
    (h : ∀ w', Blk g (gs.take (min sn dn) ++ fs.drop (min sn dn)) w' → Only (fun k => k = g) w w' → wpList Tryz.prog ops Q rest (a.put o.dst (goInt (min sn dn : Nat))) w') : wpList Tryz.prog ops Q (o :: rest) a w := by
  refine wpList_plain hgd fun K hK => ?_
  have key : ∃ w', (Builtin.copy_ #[22, 22] o.type #[.slice (some ⟨g, 0, none⟩) dn dcap, .slice sp sn scap]).run Tryz.prog w = .ok (goInt (min sn dn : Nat)) w' ∧ Blk g (gs.take (min sn dn) ++ fs.drop (min sn dn)) w' ∧ Only (fun k => k = g) w w' := by
    have h9 : ((Tryz.prog.info? 9).map (·.size)).isSome = true := by kernel_rfl
    cases sp with
    | none =>
      have hsn : sn = 0 := by
        rcases Nat.eq_zero_or_pos sn with h0 | h0
        · exact h0
        · obtain ⟨p, o, e, _⟩ := hf.2 h0
          cases e
      have hsc := hnone rfl
      subst hsn hsc
      refine ⟨w, ?_, ?_, Only.refl _ _⟩
      · rw [run_copy_nil (P := Tryz.prog) w 22 22 o.type 9 ⟨g, 0, none⟩ dn dcap Tryz.underlying22 h9]
        simp
      · simpa using hb
    | some ad =>
      obtain ⟨m, hm⟩ : ∃ m, m = min sn dn := ⟨_, rfl⟩
      rw [← hm]
      have hl : ((gs.take m).length) = m := by rw [List.length_take, ← hf.1]; omega
      have hcl : ((gs.take m).map fun x => S x).length = m := by rw [List.length_map, hl]
      have hrun := run_copy1 w o.type g dn dcap ad sn scap (cellsS fs) ((gs.take m).map fun x => S x) m hm hb hcl (by
        intro j v hv
        have hj : j < m := by have := (List.getElem?_eq_some_iff.1 hv).1; omega
        obtain ⟨p, o, e, hcells⟩ := hf.2 (by omega)
        cases e
        have hadd : (⟨p, o, none⟩ : Addr).add j = ⟨p, o + j, none⟩ := by unfold Addr.add; split <;> simp_all
        rw [hadd, hcells j (by omega), ← hv]
        have hjl : j < gs.length := by rw [← hf.1]; omega
        simp [hj, hjl]) (by rw [hcl, cellsS_size]; omega) (by intro v hv; obtain ⟨x, _, rfl⟩ := List.mem_map.1 hv; rfl)
      refine ⟨_, hrun, ?_, ⟨rfl, rfl, rfl, by simp [World.setRow], fun k _ hk => setRow_other w g k _ hk⟩⟩
      unfold Blk
      rw [setRow_heap w g _ _ 9 _ hb, hcl, cellsS_list]
      simp [cellsS, List.map_drop]
  obtain ⟨w', hrun, hb', hk⟩ := key
  unfold Oper.wp
  simp [execOp, ho, resolve, invoke, builtin, hd, hs, hrun, Result.andThen]
  exact hK _ _ (h w' hb' hk)
theorem Blk.set {g : Nat} {l : List Bs} {w : World} (h : Blk g l w) (k : Nat) (x : Bs) : Blk g (l.set k x) (w.setCell ⟨g, k, none⟩ (S x)) := by
  unfold Blk
  rw [heap_setCell_same w g k _ 9 _ h]
  have e : cellsS (l.set k x) = (cellsS l).setIfInBounds k (S x) := by
    rw [← Array.toList_inj, cellsS_list, Array.toList_setIfInBounds, cellsS_list, List.map_set]
  rw [e]
def spare : Bs := [115, 112, 97, 114, 101]
/-- How far the spare texts are laid. -/
def mid (l : List Bs) (j : Nat) : List Bs := l ++ (List.replicate j spare ++ List.replicate (4 - j) [])
theorem mid_len (l : List Bs) (j : Nat) (h : j ≤ 4) : (mid l j).length = l.length + 4 := by simp [mid]; omega
theorem mid_set (l : List Bs) (j : Nat) (h : j < 4) : (mid l j).set (l.length + j) spare = mid l (j + 1) := by
  have e : 4 - j = (4 - (j + 1)) + 1 := by omega
  unfold mid
  rw [List.set_append, if_neg (by omega), Nat.add_sub_cancel_left, List.set_append, if_neg (by simp)]
  simp only [List.length_replicate, Nat.sub_self]
  rw [e, List.replicate_succ, List.set_cons_zero, List.replicate_succ' (n := j), List.append_assoc]
  rfl
set_option maxHeartbeats 4000000 in
set_option maxRecDepth 8000 in
theorem lent_any (a : Option Addr) (n cap : Nat) (l : List Bs) (w : World) (hp : Sts w a n l) (hnone : a = none → cap = 0) (hn : n ≤ 100000000000) :
    Calls Tryz.prog 23 #[.slice a n cap] w fun e w' => e = .returned (.slice (some ⟨w.heap.size, 0, none⟩) (n + 4) (n + 4)) ∧ Blk w.heap.size (mid l 4) w' ∧ Below w.heap.size w w' := by
  have HN := hide hp.1
  have HP := hide hp
  have HO := hide hnone
  clear hp hnone
  go_enter Tryz.func23, Tryz.ntmps23
  go_wp2_with (first | (refine makeS rfl (.tmp 7) (.tmp 7) rfl _ _ (n + 4) (by rfl) (by rfl) (by omega) (by omega) (by omega) ?_; intro w1 hb1 k1; have HB1 := hide hb1; have HK1 := hide k1; clear hb1 k1) | (refine copyS rfl (.tmp 9) (.tmp 10) rfl w.heap.size (n + 4) (n + 4) a n cap (by rfl) (by rfl) (List.replicate (n + 4) []) l (unhide HB1) ((unhide HP).below (unhide HK1)) (unhide HO) (by simp) ?_; intro w2 hb2 k2; have HB2 := hide hb2; have HK2 := hide k2; clear hb2 k2))
  have hb3 : Blk w.heap.size (mid l 0) w2 := by
    have hb2 := unhide HB2
    have e1 : min n (n + 4) = n := by omega
    rw [e1, List.take_of_length_le (by have := unhide HN; omega), List.drop_replicate, show n + 4 - n = 4 by omega] at hb2
    exact hb2
  have HB3 := hide hb3
  have K3 := hide ((unhide HK2).below (unhide HK1) (unhide HK1).size (fun k e => by omega))
  clear HB1 HK1 HB2 HK2 hb3
  go_loopw [4] (fun i wq => ∃ j : Nat, j ≤ 4 ∧ i = .int .i64 ((n + j : Nat) : Int) ∧ Blk w.heap.size (mid l j) wq ∧ Below w.heap.size w wq) (fun i _ => n + 4 - (Go.RowKit.intOf i).toNat)
  case atStart => exact ⟨0, by omega, by simp, unhide HB3, unhide K3⟩
  case round =>
    obtain ⟨j, hj, rfl, hb, hbr⟩ := hrel
    clear HB3 K3
    obtain ⟨k, hk⟩ : ∃ k, k = n + j := ⟨_, rfl⟩
    rw [← hk]
    by_cases hlt : j < 4
    · have hc0 := hb.at k (by rw [mid_len l j hj, ← unhide HN]; omega)
      have hz := frz hb k
      have hset := hb.set k spare
      rw [hk, unhide HN, mid_set l j hlt, ← unhide HN, ← hk] at hset
      have HS := hide hset
      have HK := hide (hbr.setCell (p := ⟨w.heap.size, k, none⟩) (Nat.le_refl _) (S spare))
      have i1 : (k : Int) < (n : Int) + 4 := by omega
      generalize (mid l j).getD k [] = old at *
      clear hset hb
      have HKk := hide hk
      clear hk
      go_wp2
      have := unhide HKk
      refine ⟨⟨j + 1, by omega, ?_, unhide HS, unhide HK⟩, ?_⟩
      · congr 1; omega
      · simp [Go.RowKit.intOf]; omega
    · obtain rfl : j = 4 := by omega
      have hd2 : ¬ (k : Int) < (n : Int) + 4 := by omega
      have HB := hide hb
      clear hb hk
      go_wp2
      go_ret
      exact ⟨rfl, unhide HB, hbr⟩
theorem mid_at (l : List Bs) (k j : Nat) (hk : k = l.length + j) (hj : j < 4) : (mid l 4).getD k [] = spare := by
  rw [hk, List.getD_eq_getElem?_getD]
  unfold mid
  rw [List.getElem?_append_right (by omega), Nat.add_sub_cancel_left]
  rcases (by omega : j = 0 ∨ j = 1 ∨ j = 2 ∨ j = 3) with rfl | rfl | rfl | rfl <;> rfl
theorem Blk.part {g : Nat} {l : List Bs} {w : World} (h : Blk g (mid l 4) w) : Sts w (some ⟨g, 0, none⟩) l.length l := by
  have := h.sts.take l.length (by rw [mid_len l 4 (by omega)]; omega)
  have e : (mid l 4).take l.length = l := by unfold mid; rw [List.take_left']; rfl
  rw [e] at this
  exact this

end Go.Proofs.YtllialbdofklgaaGreatDoor
