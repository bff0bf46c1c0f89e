import Derived.Test.YthlacailhfhjnaaGreatDoorZzbd
import Derived.Laws.CopyRow
import Derived.Laws.MakeOwn
import Derived.Test.YthlacailhfhjnaaGreatDoorZzao
import Derived.Lib.BufSteps
namespace Go.Proofs.YthlacailhfhjnaaGreatDoor
open Go.RowKit Go.Lib
/-- A block that holds fields and nothing else. -/
def Blk (g : Nat) (fs : List Fl) (w : World) : Prop := w.heap[g]? = some (.cells (cellsF fs).toArray 35 (0, 0))
theorem Blk.fls {g : Nat} {fs : List Fl} {w : World} (h : Blk g fs w) : Fls w (some ⟨g, 0, none⟩) fs.length fs := by
  refine ⟨rfl, fun _ => ⟨g, 0, rfl, fun j hj => ?_⟩⟩
  obtain ⟨h1, h2⟩ := cellsF_at fs j hj
  rw [Nat.zero_add, cell_of_heap h, cell_of_heap h]
  simpa using ⟨h1, h2⟩
theorem Blk.keep {g : Nat} {fs : List Fl} {w w' : World} (h : Blk g fs w) (k : Below w.heap.size w w') : Blk g fs w' := by
  unfold Blk
  rw [k.block g (Array.getElem?_eq_some_iff.1 h).1]
  exact h
theorem Blk.lt {g : Nat} {fs : List Fl} {w : World} (h : Blk g fs w) : g < w.heap.size := (Array.getElem?_eq_some_iff.1 h).1
theorem made35 (m : Nat) : (madeCells #[Value.string ⟨#[]⟩, Value.string ⟨#[]⟩] m).toList = List.replicate m (S []) := by
  unfold madeCells
  apply List.ext_getElem
  · simp
  · intro i h1 h2
    have h3 : i % 2 = 0 ∨ i % 2 = 1 := by omega
    simp
    rcases h3 with h3 | h3 <;> simp [h3]
theorem cellsF_zero (n : Nat) : cellsF (List.replicate n fl0) = List.replicate (n * 2) (S []) := by
  induction n with
  | zero => rfl
  | succ n ih =>
    rw [List.replicate_succ, show (n + 1) * 2 = n * 2 + 1 + 1 by omega, List.replicate_succ, List.replicate_succ, ← ih]
    simp [cellsF, fl0]
/-- make([]Field, n). -/
theorem makeF {ops : Array Oper} {rest : List Oper} {o : Oper} {a : Act} {w : World} {Q : Exit → Act → World → Prop} (hgd : o.guard = none) (l c : Operand) (hop : o.op = Op.makeSlice 22 l c)
    (L C : Int) (n : Nat) (hl : a.eval l = .int .i64 L) (hc : a.eval c = .int .i64 C) (hL : L = (n : Int)) (hC : C = (n : Int)) (hn : n ≤ 1000000000000)
    (h : ∀ w', Blk w.heap.size (List.replicate n fl0) w' → Below w.heap.size w w' → wpList Tryz.prog ops Q rest (a.put o.dst (.slice (some ⟨w.heap.size, 0, none⟩) n n)) w') : wpList Tryz.prog ops Q (o :: rest) a w := by
  obtain ⟨i0, hi, hz0, hz1, hz2⟩ := info_parts info35
  refine wpList_make_full w hgd l c 22 hop w.heap.size 35 i0 _ 2 Tryz.underlying22 hi hz0 hz1 .i64 .i64 L C n hl hc hL hC (by rw [hz2]; omega) (by unfold maxLen; omega) (Nat.le_refl _) ?_
  intro w' ho hg
  refine h w' ?_ ((Below.refl _ _).grown hg (Nat.le_refl _) (fun k e => by cases e))
  rcases ho.2 with ⟨e, _⟩ | ⟨g, cap, cur, e, _, hgg, _, _, hsz, htk⟩
  · cases e
  · simp only [Value.slice.injEq, Option.some.injEq, Addr.mk.injEq, and_true] at e
    obtain ⟨rfl, rfl⟩ : w.heap.size = g ∧ n = cap := ⟨e.1, e.2.2⟩
    unfold Blk
    rw [hgg, cellsF_zero]
    have h1 : cur.toList = List.replicate (n * 2) (S []) := by
      have h2 : cur.toList.take (n * 2) = cur.toList := List.take_of_length_le (by simp; omega)
      rw [← h2, htk]
      exact made35 (n * 2)
    rw [← h1]
theorem run_copy2 (w : World) (ty : TypeId) (g dLen dCap : Nat) (a : Addr) (sLen sCap : Nat) (cur : Array Value) (cs : List Value) (m : Nat) (hm : m = Nat.min sLen dLen)
    (hg : w.heap[g]? = some (.cells cur 35 (0, 0))) (hn : cs.length = m * 2)
    (hsrc : ∀ j v, cs[j]? = some v → w.cell? (a.add j) = some v) (hfit : cs.length ≤ cur.size) (h1 : ∀ v ∈ cs, v.oneCell' = true) :
    (Builtin.copy_ #[22, 22] ty #[.slice (some ⟨g, 0, none⟩) dLen dCap, .slice (some a) sLen sCap]).run Tryz.prog w =
      .ok (goInt m) (w.setRow g (cs ++ cur.toList.drop cs.length).toArray) := by
  have hl := run_loadCells_list (P := Tryz.prog) w a cs hsrc
  have hst := run_storeCells_at Tryz.prog g 0 35 cs 0 cur w hg (by simpa using hfit) h1
  obtain ⟨i0, hi, hz0, hz1, hz2⟩ := info_parts info35
  rw [hn] at hl
  simp only [Nat.zero_add, List.take_zero, List.nil_append] at hst
  simp [Builtin.copy_, run_underlying Tryz.underlying22, Builtin.lenOf, Builtin.firstCells, sizeOf, typeInfo, hi, hz1, ← hm, hl, hst]
theorem cellsF_drop (fs : List Fl) (m : Nat) : (cellsF fs).drop (m * 2) = cellsF (fs.drop m) := by
  induction m generalizing fs with
  | zero => simp
  | succ m ih =>
    cases fs with
    | nil => simp [cellsF]
    | cons f l =>
      have e : cellsF (f :: l) = S f.1 :: S f.2 :: cellsF l := by simp [cellsF]
      rw [e, show (m + 1) * 2 = m * 2 + 1 + 1 by omega, List.drop_succ_cons, List.drop_succ_cons, ih, List.drop_succ_cons]
theorem cellsF_one (fs : List Fl) : ∀ v ∈ cellsF fs, v.oneCell' = true := by
  intro v hv
  obtain ⟨f, _, h⟩ := List.mem_flatMap.1 hv
  simp at h
  rcases h with rfl | rfl <;> rfl
theorem cellsF_get (fs : List Fl) (j : Nat) (v : Value) (h : (cellsF fs)[j]? = some v) : ∃ k, k < fs.length ∧ ((j = k * 2 ∧ v = S (fs.getD k fl0).1) ∨ (j = k * 2 + 1 ∧ v = S (fs.getD k fl0).2)) := by
  have hj : j < fs.length * 2 := by
    have := (List.getElem?_eq_some_iff.1 h).1
    rw [cellsF_len] at this
    exact this
  refine ⟨j / 2, by omega, ?_⟩
  obtain ⟨h1, h2⟩ := cellsF_at fs (j / 2) (by omega)
  rcases (by omega : j = j / 2 * 2 ∨ j = j / 2 * 2 + 1) with e | e
  · rw [← e, h] at h1
    exact .inl ⟨e, Option.some.inj h1⟩
  · rw [← e, h] at h2
    exact .inr ⟨e, Option.some.inj h2⟩
/-- copy of fields into a block of one's own. -/
theorem copyF {ops : Array Oper} {rest : List Oper} {o : Oper} {a : Act} {w : World} {Q : Exit → Act → World → Prop} (hgd : o.guard = none) (d s : Operand)
    (ho : o.op = .call { callee := .builtin .copy, args := #[d, s], argTypes := #[22, 22] }) (g dn dcap : Nat) (sp : Option Addr) (sn scap : Nat) (hd : a.eval d = .slice (some ⟨g, 0, none⟩) dn dcap) (hs : a.eval s = .slice sp sn scap)
    (fs gs : List Fl) (hb : Blk g fs w) (hf : Fls w sp sn gs) (hnone : sp = none → scap = 0) (hdn : dn ≤ fs.length)
    (h : ∀ w', Blk g (gs.take (min sn dn) ++ fs.drop (min sn dn)) w' → (∀ B w0, B ≤ g → Below B w0 w → Below B w0 w') → wpList Tryz.prog ops Q rest (a.put o.dst (goInt (min sn dn : Nat))) w') : wpList Tryz.prog ops Q (o :: rest) a w := by
  refine wpList_plain hgd fun K hK => ?_
  have key : ∃ w', (Builtin.copy_ #[22, 22] o.type #[.slice (some ⟨g, 0, none⟩) dn dcap, .slice sp sn scap]).run Tryz.prog w = .ok (goInt (min sn dn : Nat)) w' ∧ Blk g (gs.take (min sn dn) ++ fs.drop (min sn dn)) w' ∧ (∀ B w0, B ≤ g → Below B w0 w → Below B w0 w') := by
    have h35 : ((Tryz.prog.info? 35).map (·.size)).isSome = true := by kernel_rfl
    cases sp with
    | none =>
      have hsn : sn = 0 := by
        rcases Nat.eq_zero_or_pos sn with h0 | h0
        · exact h0
        · obtain ⟨p, o, e, _⟩ := hf.2 h0
          cases e
      have hsc := hnone rfl
      subst hsn hsc
      refine ⟨w, ?_, ?_, fun B w0 _ h => h⟩
      · rw [run_copy_nil (P := Tryz.prog) w 22 22 o.type 35 ⟨g, 0, none⟩ dn dcap Tryz.underlying22 h35]
        simp
      · simpa using hb
    | some ad =>
      obtain ⟨m, hm⟩ : ∃ m, m = min sn dn := ⟨_, rfl⟩
      rw [← hm]
      have hl : ((gs.take m).length) = m := by rw [List.length_take, ← hf.1]; omega
      have hcl : (cellsF (gs.take m)).length = m * 2 := by rw [cellsF_len, hl]
      have hrun := run_copy2 w o.type g dn dcap ad sn scap (cellsF fs).toArray (cellsF (gs.take m)) m hm hb hcl (by
        intro j v hv
        obtain ⟨k, hk, hc⟩ := cellsF_get _ _ _ hv
        rw [hl] at hk
        obtain ⟨p, o, e, hcells⟩ := hf.2 (by omega)
        cases e
        have e2 : (gs.take m).getD k fl0 = gs.getD k fl0 := by
          rw [List.getD_eq_getElem?_getD, List.getD_eq_getElem?_getD, List.getElem?_take, if_pos hk]
        have hadd : ∀ i, (⟨p, o, none⟩ : Addr).add i = ⟨p, o + i, none⟩ := fun i => by unfold Addr.add; split <;> simp_all
        rw [e2] at hc
        rcases hc with ⟨rfl, rfl⟩ | ⟨rfl, rfl⟩
        · rw [hadd]; exact (hcells k (by omega)).1
        · rw [hadd, ← Nat.add_assoc]; exact (hcells k (by omega)).2) (by simp [hcl, cellsF_len]; omega) (cellsF_one _)
      refine ⟨_, hrun, ?_, fun B w0 hB h => h.trans ⟨rfl, rfl, rfl, by simp [World.setRow], fun k hk => setRow_other w g k _ (by omega)⟩⟩
      unfold Blk
      rw [setRow_heap w g _ _ 35 _ hb, hcl, cellsF_append]
      simp [cellsF_drop]
  obtain ⟨w', hrun, hb', hk⟩ := key
  unfold Oper.wp
  simp [execOp, ho, resolve, invoke, builtin, hd, hs, hrun, Result.andThen]
  exact hK _ _ (h w' hb' hk)
theorem cellsF_set (fs : List Fl) (k : Nat) (x : List UInt8) (h : k < fs.length) : (cellsF fs).set (k * 2) (S x) = cellsF (fs.set k (x, (fs.getD k fl0).2)) := by
  induction fs generalizing k with
  | nil => simp at h
  | cons f l ih =>
    have e : cellsF (f :: l) = S f.1 :: S f.2 :: cellsF l := by simp [cellsF]
    cases k with
    | zero => simp [cellsF]
    | succ k =>
      rw [e, show (k + 1) * 2 = k * 2 + 1 + 1 by omega, List.set_cons_succ, List.set_cons_succ, ih k (by simpa using h), List.set_cons_succ]
      simp [cellsF]
theorem Blk.set {g : Nat} {fs : List Fl} {w : World} (h : Blk g fs w) (k : Nat) (hk : k < fs.length) (x : List UInt8) : Blk g (fs.set k (x, (fs.getD k fl0).2)) (w.setCell ⟨g, k * 2, none⟩ (S x)) := by
  unfold Blk
  rw [heap_setCell_same w g (k * 2) _ 35 _ h, ← cellsF_set fs k x hk]
  simp
def spare : Fl := ([115, 112, 97, 114, 101], [])
/-- How far the spare fields are laid. -/
def mid (fs : List Fl) (j : Nat) : List Fl := fs ++ (List.replicate j spare ++ List.replicate (4 - j) fl0)
theorem mid_len (fs : List Fl) (j : Nat) (h : j ≤ 4) : (mid fs j).length = fs.length + 4 := by simp [mid]; omega
theorem mid_set (fs : List Fl) (j : Nat) (h : j < 4) : (mid fs j).set (fs.length + j) ([115, 112, 97, 114, 101], ((mid fs j).getD (fs.length + j) fl0).2) = mid fs (j + 1) := by
  have e : 4 - j = (4 - (j + 1)) + 1 := by omega
  unfold mid
  rw [List.set_append, if_neg (by omega), Nat.add_sub_cancel_left, List.set_append, if_neg (by simp)]
  simp only [List.length_replicate, Nat.sub_self]
  rw [e, List.replicate_succ, List.set_cons_zero, List.replicate_succ' (n := j), List.append_assoc]
  congr 2
  simp [fl0, spare]
set_option maxHeartbeats 4000000 in
set_option maxRecDepth 8000 in
theorem lent_any (a : Option Addr) (n cap : Nat) (fs : List Fl) (w : World) (hp : Fls w a n fs) (hnone : a = none → cap = 0) (hn : n ≤ 100000000000) :
    Calls Tryz.prog 36 #[.slice a n cap] w fun e w' => e = .returned (.slice (some ⟨w.heap.size, 0, none⟩) (n + 4) (n + 4)) ∧ Blk w.heap.size (mid fs 4) w' ∧ Below w.heap.size w w' := by
  have HN := hide hp.1
  have HP := hide hp
  have HO := hide hnone
  clear hp hnone
  go_enter Tryz.func36, Tryz.ntmps36
  go_wp2_with (first | (refine makeF rfl (.tmp 7) (.tmp 7) rfl _ _ (n + 4) (by rfl) (by rfl) (by omega) (by omega) (by omega) ?_; intro w1 hb1 k1) | (refine copyF rfl (.tmp 9) (.tmp 10) rfl w.heap.size (n + 4) (n + 4) a n cap (by rfl) (by rfl) (List.replicate (n + 4) fl0) fs hb1 ((unhide HP).below k1) (unhide HO) (by simp) ?_; intro w2 hb2 k2))
  have hb3 : Blk w.heap.size (mid fs 0) w2 := by
    have e1 : min n (n + 4) = n := by omega
    rw [e1, List.take_of_length_le (by have := unhide HN; omega), List.drop_replicate, show n + 4 - n = 4 by omega] at hb2
    exact hb2
  have HB3 := hide hb3
  have K3 := hide (k2 _ _ (Nat.le_refl _) k1)
  clear hb1 k1 hb2 k2 hb3
  go_loopw [4] (fun i wr => ∃ j : Nat, j ≤ 4 ∧ i = .int .i64 ((n + j : Nat) : Int) ∧ Blk w.heap.size (mid fs j) wr ∧ Below w.heap.size w wr) (fun i _ => n + 4 - (Go.RowKit.intOf i).toNat)
  case atStart => exact ⟨0, by omega, by simp, unhide HB3, unhide K3⟩
  case round =>
    obtain ⟨j, hj, rfl, hb, hbr⟩ := hrel
    clear HB3 K3
    obtain ⟨k, hk⟩ : ∃ k, k = n + j := ⟨_, rfl⟩
    rw [← hk]
    by_cases hlt : j < 4
    · have hfl := hb.fls.at (j := k) (by rw [mid_len fs j hj, ← unhide HN]; omega)
      obtain ⟨p, o, e, _, hc0, _⟩ := hfl
      simp only [Option.some.injEq, Addr.mk.injEq, and_true] at e
      obtain ⟨rfl, rfl⟩ := e
      rw [Nat.zero_add] at hc0
      have hz : wr.frozen? ⟨w.heap.size, k * 2, none⟩ = false := frozen_of_heap hb (k * 2)
      have hset := hb.set k (by rw [mid_len fs j hj, ← unhide HN]; omega) [115, 112, 97, 114, 101]
      rw [hk, unhide HN, mid_set fs j hlt, ← unhide HN, ← hk] at hset
      have HS := hide hset
      have HK := hide (hbr.setCell (p := ⟨w.heap.size, k * 2, none⟩) (Nat.le_refl _) (S [115, 112, 97, 114, 101]))
      have i1 : (k : Int) < (n : Int) + 4 := by omega
      generalize ((mid fs j).getD k fl0).1 = old at *
      clear hset hb
      have HKk := hide hk
      clear hk
      go_wp2
      have := unhide HKk
      refine ⟨⟨j + 1, by omega, ?_, unhide HS, unhide HK⟩, ?_⟩
      · congr 1; omega
      · simp [Go.RowKit.intOf]; omega
    · obtain rfl : j = 4 := by omega
      have hd : decide (k < n + 4) = false := by simp; omega
      have hd2 : ¬ (k : Int) < (n : Int) + 4 := by omega
      have HB := hide hb
      clear hb hk
      go_wp2
      go_ret
      exact ⟨rfl, unhide HB, hbr⟩
end Go.Proofs.YthlacailhfhjnaaGreatDoor
namespace Go.Proofs.YthlacailhfhjnaaGreatDoor
open Go.RowKit Go.Lib
/-- The mark of the i-th list. -/
def mk (i : Nat) : Fl := ([], [109, 97, 114, 107, UInt8.ofNat i, UInt8.ofNat (i / 256), UInt8.ofNat (i / 65536)])
theorem mk_inj {i j : Nat} (hi : i < 16777216) (hj : j < 16777216) (h : mk i = mk j) : i = j := by
  simp only [mk, Prod.mk.injEq, List.cons.injEq, true_and, and_true] at h
  obtain ⟨h1, h2, h3⟩ := h
  have h1 := congrArg UInt8.toNat h1
  have h2 := congrArg UInt8.toNat h2
  have h3 := congrArg UInt8.toNat h3
  simp at h1 h2 h3
  omega
theorem ba_app2 (x y : Bs) : (ByteArray.mk x.toArray ++ ByteArray.mk y.toArray) = ⟨(x ++ y).toArray⟩ := by
  apply ByteArray.ext
  simp [ByteArray.data_append]
theorem loadVar35 (b : Nat) (x y : Value) (W : World) (h0 : W.cell? ⟨b, 0, none⟩ = some x) (h1 : W.cell? ⟨b, 1, none⟩ = some y) : (loadVar 35 ⟨b, 0, none⟩).run Tryz.prog W = .ok (.agg #[x, y]) W := by
  have hl : (loadCells ⟨b, 0, none⟩ 2).run Tryz.prog W = .ok #[x, y] W := by
    have := run_loadCells_list (P := Tryz.prog) W ⟨b, 0, none⟩ [x, y] (fun j v hv => by
      match j, hv with
      | 0, hv => simp at hv; subst hv; simpa [Addr.add] using h0
      | 1, hv => simp at hv; subst hv; simpa [Addr.add] using h1
      | (j + 2), hv => simp at hv)
    simpa using this
  simp [loadVar, Tryz.isAgg35, Tryz.sizeOf35, hl, Result.andThen]
theorem results_c1 {fn : Func} {p : Tmp} (h : fn.results = #[.cell p 35]) (tmps : Array Value) (w : World) (b : Nat) (n v : Value) (ht : tmps.getD p undef = .pointer (some ⟨b, 0, none⟩)) (h0 : w.cell? ⟨b, 0, none⟩ = some n) (h1 : w.cell? ⟨b, 1, none⟩ = some v) :
    (results fn tmps).run Tryz.prog w = .ok (.agg #[n, v]) w := by
  have ht' : tmps[p]?.getD undef = .pointer (some ⟨b, 0, none⟩) := by simpa using ht
  simp only [results, h]
  simp [ht', asAddr, loadVar35 b n v w h0 h1]
set_option maxHeartbeats 4000000 in
set_option maxRecDepth 8000 in
theorem mark_any (i : Nat) (w : World) (hi : i < 16777216) :
    Calls Tryz.prog 55 #[.int .i64 (i : Int)] w fun e w' => e = .returned (.agg #[S (mk i).1, S (mk i).2]) ∧ Below w.heap.size w w' := by
  have hA : ((w.alloc (.cells #[.string ⟨#[]⟩, .string ⟨#[]⟩] 35)).alloc (.cells #[.int .u8 ((i : Int) % 256), .int .u8 ((i : Int) / 256 % 256), .int .u8 ((i : Int) / 65536)] 5)).heap[w.heap.size + 1]? = some (.cells #[.int .u8 ((i : Int) % 256), .int .u8 ((i : Int) / 256 % 256), .int .u8 ((i : Int) / 65536)] 5 (0, 0)) := by
    have := heap_alloc_new (w.alloc (.cells #[.string ⟨#[]⟩, .string ⟨#[]⟩] 35)) (.cells #[.int .u8 ((i : Int) % 256), .int .u8 ((i : Int) / 256 % 256), .int .u8 ((i : Int) / 65536)] 5)
    simpa using this
  have hconv := run_text ((w.alloc (.cells #[.string ⟨#[]⟩, .string ⟨#[]⟩] 35)).alloc (.cells #[.int .u8 ((i : Int) % 256), .int .u8 ((i : Int) / 256 % 256), .int .u8 ((i : Int) / 65536)] 5)) (w.heap.size + 1) 0 3 3 [UInt8.ofNat i, UInt8.ofNat (i / 256), UInt8.ofNat (i / 65536)] rfl (by
    intro j hj
    rcases (by omega : j = 0 ∨ j = 1 ∨ j = 2) with rfl | rfl | rfl
    · rw [cell_of_row _ _ _ _ 5 (0, 0) hA]
      show some (Value.int .u8 ((i : Int) % 256)) = some (.int .u8 ((UInt8.ofNat i).toNat : Int))
      simp
    · rw [cell_of_row _ _ _ _ 5 (0, 0) hA]
      show some (Value.int .u8 ((i : Int) / 256 % 256)) = some (.int .u8 ((UInt8.ofNat (i / 256)).toNat : Int))
      simp
    · rw [cell_of_row _ _ _ _ 5 (0, 0) hA]
      show some (Value.int .u8 ((i : Int) / 65536)) = some (.int .u8 ((UInt8.ofNat (i / 65536)).toNat : Int))
      simp
      omega)
  have HA1 : ∀ x : Value, Hid (((w.alloc (.cells #[.string ⟨#[]⟩, x] 35)).alloc (.cells #[.int .u8 ((i : Int) % 256), .int .u8 ((i : Int) / 256 % 256), .int .u8 ((i : Int) / 65536)] 5)).heap[w.heap.size]? = some (.cells #[.string ⟨#[]⟩, x] 35 (0, 0))) := fun x => hide (by
    show (((w.heap.push _).push _)[w.heap.size]?) = _
    rw [Array.getElem?_push_lt (by simp)]
    simp)
  have HB : ∀ x : Value, Hid (Below w.heap.size w ((w.alloc (.cells #[.string ⟨#[]⟩, x] 35)).alloc (.cells #[.int .u8 ((i : Int) % 256), .int .u8 ((i : Int) / 256 % 256), .int .u8 ((i : Int) / 65536)] 5))) := fun x => hide (((Below.refl w.heap.size w).alloc (Nat.le_refl _) _).alloc (by simp) _)
  have HE : S (mk i).2 = .string (⟨#[109, 97, 114, 107]⟩ ++ ⟨#[UInt8.ofNat i, UInt8.ofNat (i / 256), UInt8.ofNat (i / 65536)]⟩) :=
    (congrArg Value.string (ba_app2 [109, 97, 114, 107] [UInt8.ofNat i, UInt8.ofNat (i / 256), UInt8.ofNat (i / 65536)])).symm
  rw [HE]
  clear hA HE
  go_enter Tryz.func55, Tryz.ntmps55
  go_wp2
  refine bodyPost_ret (results_c1 (p := 2) rfl _ _ w.heap.size _ _ rfl ((cell_of_heap (unhide (HA1 _)) 0).trans rfl) ((cell_of_heap (unhide (HA1 _)) 1).trans rfl)) rfl ⟨rfl, unhide (HB _)⟩
end Go.Proofs.YthlacailhfhjnaaGreatDoor
namespace Go.Proofs.YthlacailhfhjnaaGreatDoor
open Go.RowKit Go.Lib
def over : Fl := ([111, 118, 101, 114], [])
/-- How far it is written over. -/
def ovr (l : List Fl) (k : Nat) : List Fl := List.replicate k over ++ l.drop k
theorem ovr_len (l : List Fl) (k : Nat) (h : k ≤ l.length) : (ovr l k).length = l.length := by simp [ovr]; omega
theorem ovr_at (l : List Fl) (k : Nat) : (ovr l k).getD k fl0 = l.getD k fl0 := by
  unfold ovr
  rw [List.getD_eq_getElem?_getD, List.getElem?_append_right (by simp), List.getElem?_drop, List.getD_eq_getElem?_getD]
  simp
theorem ovr_set (l : List Fl) (k : Nat) (h : k < l.length) : (ovr l k).set k over = ovr l (k + 1) := by
  unfold ovr
  rw [List.set_append, if_neg (by simp)]
  simp only [List.length_replicate, Nat.sub_self]
  rw [List.drop_eq_getElem_cons h, List.set_cons_zero, List.replicate_succ', List.append_assoc]
  rfl
theorem cellsF_set2 (fs : List Fl) (k : Nat) (f : Fl) (h : k < fs.length) : ((cellsF fs).set (k * 2) (S f.1)).set (k * 2 + 1) (S f.2) = cellsF (fs.set k f) := by
  induction fs generalizing k with
  | nil => simp at h
  | cons g l ih =>
    have e : ∀ (g : Fl) (l : List Fl), cellsF (g :: l) = S g.1 :: S g.2 :: cellsF l := fun g l => by simp [cellsF]
    cases k with
    | zero => simp [cellsF]
    | succ k =>
      rw [e, show (k + 1) * 2 = k * 2 + 1 + 1 by omega, List.set_cons_succ, List.set_cons_succ, List.set_cons_succ, List.set_cons_succ, ih k (by simpa using h), List.set_cons_succ, e]
theorem Blk.set2 {g : Nat} {fs : List Fl} {w : World} (h : Blk g fs w) (k : Nat) (hk : k < fs.length) (f : Fl) : Blk g (fs.set k f) ((w.setCell ⟨g, k * 2, none⟩ (S f.1)).setCell ⟨g, k * 2 + 1, none⟩ (S f.2)) := by
  unfold Blk
  have q := heap_setCell_same w g (k * 2) _ 35 (S f.1) h
  rw [heap_setCell_same _ g (k * 2 + 1) _ 35 _ q, ← cellsF_set2 fs k f hk]
  simp
theorem mid_lo (fs : List Fl) (k : Nat) (h : k < fs.length) : (mid fs 4).getD k fl0 = fs.getD k fl0 := by
  unfold mid
  rw [List.getD_eq_getElem?_getD, List.getElem?_append_left h, List.getD_eq_getElem?_getD]
theorem mid_hi (fs : List Fl) (k : Nat) (h1 : fs.length ≤ k) (h2 : k < fs.length + 4) : (mid fs 4).getD k fl0 = spare := by
  obtain ⟨j, rfl⟩ : ∃ j, k = fs.length + j := ⟨k - fs.length, by omega⟩
  unfold mid
  rw [List.getD_eq_getElem?_getD, List.getElem?_append_right (by omega), Nat.add_sub_cancel_left]
  rcases (by omega : j = 0 ∨ j = 1 ∨ j = 2 ∨ j = 3) with rfl | rfl | rfl | rfl <;> rfl
set_option maxHeartbeats 8000000 in
set_option maxRecDepth 8000 in
theorem kept_any (g : Nat) (a : Option Addr) (cap : Nat) (fs : List Fl) (w0 w : World) (hb : Blk g (mid fs 4) w) (hp : Fls w0 a fs.length fs) (h0 : Below w0.heap.size w0 w) (hg : w0.heap.size ≤ g) (hn : fs.length ≤ 100000000000) :
    Calls Tryz.prog 42 #[.slice (some ⟨g, 0, none⟩) (fs.length + 4) (fs.length + 4), .slice a fs.length cap] w fun e w' => e = .returned (.bool true) ∧ Only (fun k => k = g) w w' := by
  have HB := hide hb
  have HP := hide (And.intro hp h0)
  clear hb hp h0
  have hml := mid_len fs 4 (Nat.le_refl _)
  go_enter Tryz.func42, Tryz.ntmps42
  go_wp2
  go_loopw [5, 6] (fun c i wr => ∃ k : Nat, k ≤ fs.length + 4 ∧ i = .int .i64 k ∧ c = .bool true ∧ Blk g (ovr (mid fs 4) k) wr ∧ Only (fun k => k = g) w wr) (fun _ i _ => fs.length + 4 - (Go.RowKit.intOf i).toNat)
  case atStart => exact ⟨0, by omega, rfl, rfl, by simpa [ovr] using unhide HB, Only.refl _ _⟩
  case round =>
    obtain ⟨k, hk, rfl, rfl, hbk, ho⟩ := hrel
    clear HB
    by_cases hlt : k < fs.length + 4
    · have hlt' : (k : Int) < (fs.length : Int) + 4 := by omega
      have hol : (ovr (mid fs 4) k).length = fs.length + 4 := by rw [ovr_len _ _ (by omega), hml]
      obtain ⟨p, o, e, _, hc0, hc1⟩ := hbk.fls.at (j := k) (by omega)
      simp only [Option.some.injEq, Addr.mk.injEq, and_true] at e
      obtain ⟨rfl, rfl⟩ := e
      rw [Nat.zero_add, ovr_at _ _] at hc0 hc1
      have HBK := hide hbk
      have HOO := hide ho
      have hbel : Below w0.heap.size w0 wr := ho.below (unhide HP).2 (unhide HP).2.size (fun j hj => by subst hj; exact hg)
      by_cases hkn : k < fs.length
      · have hkn' : (k : Int) < (fs.length : Int) := by omega
        rw [mid_lo _ _ hkn] at hc0 hc1
        obtain ⟨p2, o2, rfl, _, g0, g1⟩ := ((unhide HP).1.below hbel).at hkn
        generalize fs.getD k fl0 = F at *
        obtain ⟨fn, fv⟩ := F
        simp only at hc0 hc1 g0 g1
        clear hbk ho hbel
        have hd1 : decide ((k : Int) < (fs.length : Int)) = true := by simp; omega
        have hd2 : decide ((fs.length : Int) ≤ (k : Int)) = false := by simp; omega
        have hd3 : decide (k < fs.length) = true := by simp; omega
        have hd4 : decide (fs.length ≤ k) = false := by simp; omega
        go_wp2_with fail
        go_quiet (fail)
        clear hc0 hc1 g0 g1
        have hbv := (unhide HBK).keep (below_dN (Below.refl _ _) nq)
        have hov := (unhide HOO).trans (Only.drewN (fun k => k = g) wr nq) (fun _ _ q => q)
        generalize wr.drewN nq = wv at *
        obtain ⟨p3, o3, e, _, c0, c1⟩ := hbv.fls.at (j := k) (by omega)
        simp only [Option.some.injEq, Addr.mk.injEq, and_true] at e
        obtain ⟨rfl, rfl⟩ := e
        rw [Nat.zero_add] at c0 c1
        have hz : ∀ j, wv.frozen? ⟨g, j, none⟩ = false := fun j => frozen_of_heap hbv j
        have hset := hbv.set2 k (by omega) over
        rw [ovr_set _ _ (by omega)] at hset
        have HS := hide hset
        have HO := hide ((hov.put ⟨g, k * 2, none⟩ (S over.1) (.inl rfl)).put ⟨g, k * 2 + 1, none⟩ (S over.2) (.inl rfl))
        generalize (ovr (mid fs 4) k).getD k fl0 = G at *
        clear hset hbv hov HBK HOO hd1 hd2 hd3 hd4
        go_wp2
        exact ⟨⟨k + 1, by omega, by go_num, rfl, unhide HS, unhide HO⟩, by simp [Go.RowKit.intOf]; omega⟩
      · have hkn' : ¬ (k : Int) < (fs.length : Int) := by omega
        rw [mid_hi _ _ (by omega) hlt] at hc0 hc1
        have g0 : wr.cell? ⟨g, k * 2, none⟩ = some (S [115, 112, 97, 114, 101]) := hc0
        have g1 : wr.cell? ⟨g, k * 2 + 1, none⟩ = some (S []) := hc1
        clear hbk ho hbel hc0 hc1
        have hd1 : decide ((k : Int) < (fs.length : Int)) = false := by simp; omega
        have hd2 : decide ((fs.length : Int) ≤ (k : Int)) = true := by simp; omega
        have hd3 : decide (k < fs.length) = false := by simp; omega
        have hd4 : decide (fs.length ≤ k) = true := by simp; omega
        go_wp2_with fail
        go_quiet (fail)
        clear g0 g1
        have hbv := (unhide HBK).keep (below_dN (Below.refl _ _) nq)
        have hov := (unhide HOO).trans (Only.drewN (fun k => k = g) wr nq) (fun _ _ q => q)
        generalize wr.drewN nq = wv at *
        obtain ⟨p3, o3, e, _, c0, c1⟩ := hbv.fls.at (j := k) (by omega)
        simp only [Option.some.injEq, Addr.mk.injEq, and_true] at e
        obtain ⟨rfl, rfl⟩ := e
        rw [Nat.zero_add] at c0 c1
        have hz : ∀ j, wv.frozen? ⟨g, j, none⟩ = false := fun j => frozen_of_heap hbv j
        have hset := hbv.set2 k (by omega) over
        rw [ovr_set _ _ (by omega)] at hset
        have HS := hide hset
        have HO := hide ((hov.put ⟨g, k * 2, none⟩ (S over.1) (.inl rfl)).put ⟨g, k * 2 + 1, none⟩ (S over.2) (.inl rfl))
        generalize (ovr (mid fs 4) k).getD k fl0 = G at *
        clear hset hbv hov HBK HOO hd1 hd2 hd3 hd4
        go_wp2
        exact ⟨⟨k + 1, by omega, by go_num, rfl, unhide HS, unhide HO⟩, by simp [Go.RowKit.intOf]; omega⟩
    · have hd : decide ((k : Int) < (fs.length : Int) + 4) = false := by simp; omega
      have HO := hide ho
      clear ho hbk
      go_wp2
      go_ret
      exact ⟨rfl, unhide HO⟩
end Go.Proofs.YthlacailhfhjnaaGreatDoor
