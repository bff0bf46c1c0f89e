import Derived.Test.YthlacailhfhjnaaGreatDoorWfh
import Derived.Test.YthlacailhfhjnaaGreatDoorWdo
import Derived.Laws.CopyRow
import Derived.Laws.MakeOwn
namespace Go.Proofs.YthlacailhfhjnaaGreatDoor
open Go.RowKit Go.Lib
/-- A block that holds fields and nothing else. -/
def Blk (g : Nat) (fs : List Fl) (w : World) : Prop := w.heap[g]? = some (.cells (cellsF fs).toArray 35 (0, 0))
theorem Blk.fls {g : Nat} {fs : List Fl} {w : World} (h : Blk g fs w) : Fls w (some ⟨g, 0, none⟩) fs.length fs := by
  refine ⟨rfl, fun _ => ⟨g, 0, rfl, fun j hj => ?_⟩⟩
  obtain ⟨h1, h2⟩ := cellsF_at fs j hj
  rw [Nat.zero_add, cell_of_heap h, cell_of_heap h]
  simpa using ⟨h1, h2⟩
theorem Blk.keep {g : Nat} {fs : List Fl} {w w' : World} (h : Blk g fs w) (k : Below w.heap.size w w') : Blk g fs w' := by
  unfold Blk
  rw [k.block g (Array.getElem?_eq_some_iff.1 h).1]
  exact h
theorem Blk.lt {g : Nat} {fs : List Fl} {w : World} (h : Blk g fs w) : g < w.heap.size := (Array.getElem?_eq_some_iff.1 h).1
theorem made35 (m : Nat) : (madeCells #[Value.string ⟨#[]⟩, Value.string ⟨#[]⟩] m).toList = List.replicate m (S []) := by
  unfold madeCells
  apply List.ext_getElem
  · simp
  · intro i h1 h2
    have h3 : i % 2 = 0 ∨ i % 2 = 1 := by omega
    simp
    rcases h3 with h3 | h3 <;> simp [h3]
theorem cellsF_zero (n : Nat) : cellsF (List.replicate n fl0) = List.replicate (n * 2) (S []) := by
  induction n with
  | zero => rfl
  | succ n ih =>
    rw [List.replicate_succ, show (n + 1) * 2 = n * 2 + 1 + 1 by omega, List.replicate_succ, List.replicate_succ, ← ih]
    simp [cellsF, fl0]
/-- make([]Field, n). -/
theorem makeF {ops : Array Oper} {rest : List Oper} {o : Oper} {a : Act} {w : World} {Q : Exit → Act → World → Prop} (hgd : o.guard = none) (l c : Operand) (hop : o.op = Op.makeSlice 22 l c)
    (L C : Int) (n : Nat) (hl : a.eval l = .int .i64 L) (hc : a.eval c = .int .i64 C) (hL : L = (n : Int)) (hC : C = (n : Int)) (hn : n ≤ 1000000000000)
    (h : ∀ w', Blk w.heap.size (List.replicate n fl0) w' → Below w.heap.size w w' → wpList Tryz.prog ops Q rest (a.put o.dst (.slice (some ⟨w.heap.size, 0, none⟩) n n)) w') : wpList Tryz.prog ops Q (o :: rest) a w := by
  obtain ⟨i0, hi, hz0, hz1, hz2⟩ := info_parts info35
  refine wpList_make_full w hgd l c 22 hop w.heap.size 35 i0 _ 2 Tryz.underlying22 hi hz0 hz1 .i64 .i64 L C n hl hc hL hC (by rw [hz2]; omega) (by unfold maxLen; omega) (Nat.le_refl _) ?_
  intro w' ho hg
  refine h w' ?_ ((Below.refl _ _).grown hg (Nat.le_refl _) (fun k e => by cases e))
  rcases ho.2 with ⟨e, _⟩ | ⟨g, cap, cur, e, _, hgg, _, _, hsz, htk⟩
  · cases e
  · simp only [Value.slice.injEq, Option.some.injEq, Addr.mk.injEq, and_true] at e
    obtain ⟨rfl, rfl⟩ : w.heap.size = g ∧ n = cap := ⟨e.1, e.2.2⟩
    unfold Blk
    rw [hgg, cellsF_zero]
    have h1 : cur.toList = List.replicate (n * 2) (S []) := by
      have h2 : cur.toList.take (n * 2) = cur.toList := List.take_of_length_le (by simp; omega)
      rw [← h2, htk]
      exact made35 (n * 2)
    rw [← h1]
theorem run_copy2 (w : World) (ty : TypeId) (g dLen dCap : Nat) (a : Addr) (sLen sCap : Nat) (cur : Array Value) (cs : List Value) (m : Nat) (hm : m = Nat.min sLen dLen)
    (hg : w.heap[g]? = some (.cells cur 35 (0, 0))) (hn : cs.length = m * 2)
    (hsrc : ∀ j v, cs[j]? = some v → w.cell? (a.add j) = some v) (hfit : cs.length ≤ cur.size) (h1 : ∀ v ∈ cs, v.oneCell' = true) :
    (Builtin.copy_ #[22, 22] ty #[.slice (some ⟨g, 0, none⟩) dLen dCap, .slice (some a) sLen sCap]).run Tryz.prog w =
      .ok (goInt m) (w.setRow g (cs ++ cur.toList.drop cs.length).toArray) := by
  have hl := run_loadCells_list (P := Tryz.prog) w a cs hsrc
  have hst := run_storeCells_at Tryz.prog g 0 35 cs 0 cur w hg (by simpa using hfit) h1
  obtain ⟨i0, hi, hz0, hz1, hz2⟩ := info_parts info35
  rw [hn] at hl
  simp only [Nat.zero_add, List.take_zero, List.nil_append] at hst
  simp [Builtin.copy_, run_underlying Tryz.underlying22, Builtin.lenOf, Builtin.firstCells, sizeOf, typeInfo, hi, hz1, ← hm, hl, hst]
theorem cellsF_drop (fs : List Fl) (m : Nat) : (cellsF fs).drop (m * 2) = cellsF (fs.drop m) := by
  induction m generalizing fs with
  | zero => simp
  | succ m ih =>
    cases fs with
    | nil => simp [cellsF]
    | cons f l =>
      have e : cellsF (f :: l) = S f.1 :: S f.2 :: cellsF l := by simp [cellsF]
      rw [e, show (m + 1) * 2 = m * 2 + 1 + 1 by omega, List.drop_succ_cons, List.drop_succ_cons, ih, List.drop_succ_cons]
theorem cellsF_one (fs : List Fl) : ∀ v ∈ cellsF fs, v.oneCell' = true := by
  intro v hv
  obtain ⟨f, _, h⟩ := List.mem_flatMap.1 hv
  simp at h
  rcases h with rfl | rfl <;> rfl
theorem cellsF_get (fs : List Fl) (j : Nat) (v : Value) (h : (cellsF fs)[j]? = some v) : ∃ k, k < fs.length ∧ ((j = k * 2 ∧ v = S (fs.getD k fl0).1) ∨ (j = k * 2 + 1 ∧ v = S (fs.getD k fl0).2)) := by
  have hj : j < fs.length * 2 := by
    have := (List.getElem?_eq_some_iff.1 h).1
    rw [cellsF_len] at this
    exact this
  refine ⟨j / 2, by omega, ?_⟩
  obtain ⟨h1, h2⟩ := cellsF_at fs (j / 2) (by omega)
  rcases (by omega : j = j / 2 * 2 ∨ j = j / 2 * 2 + 1) with e | e
  · rw [← e, h] at h1
    exact .inl ⟨e, Option.some.inj h1⟩
  · rw [← e, h] at h2
    exact .inr ⟨e, Option.some.inj h2⟩
/-- copy of fields into a block of one's own. -/
theorem copyF {ops : Array Oper} {rest : List Oper} {o : Oper} {a : Act} {w : World} {Q : Exit → Act → World → Prop} (hgd : o.guard = none) (d s : Operand)
    (ho : o.op = .call { callee := .builtin .copy, args := #[d, s], argTypes := #[22, 22] }) (g dn dcap : Nat) (sp : Option Addr) (sn scap : Nat) (hd : a.eval d = .slice (some ⟨g, 0, none⟩) dn dcap) (hs : a.eval s = .slice sp sn scap)
    (fs gs : List Fl) (hb : Blk g fs w) (hf : Fls w sp sn gs) (hnone : sp = none → scap = 0) (hdn : dn ≤ fs.length)
    (h : ∀ w', Blk g (gs.take (min sn dn) ++ fs.drop (min sn dn)) w' → (∀ B w0, B ≤ g → Below B w0 w → Below B w0 w') → wpList Tryz.prog ops Q rest (a.put o.dst (goInt (min sn dn : Nat))) w') : wpList Tryz.prog ops Q (o :: rest) a w := by
  refine wpList_plain hgd fun K hK => ?_
  have key : ∃ w', (Builtin.copy_ #[22, 22] o.type #[.slice (some ⟨g, 0, none⟩) dn dcap, .slice sp sn scap]).run Tryz.prog w = .ok (goInt (min sn dn : Nat)) w' ∧ Blk g (gs.take (min sn dn) ++ fs.drop (min sn dn)) w' ∧ (∀ B w0, B ≤ g → Below B w0 w → Below B w0 w') := by
    have h35 : ((Tryz.prog.info? 35).map (·.size)).isSome = true := by kernel_rfl
    cases sp with
    | none =>
      have hsn : sn = 0 := by
        rcases Nat.eq_zero_or_pos sn with h0 | h0
        · exact h0
        · obtain ⟨p, o, e, _⟩ := hf.2 h0
          cases e
      have hsc := hnone rfl
      subst hsn hsc
      refine ⟨w, ?_, ?_, fun B w0 _ h => h⟩
      · rw [run_copy_nil (P := Tryz.prog) w 22 22 o.type 35 ⟨g, 0, none⟩ dn dcap Tryz.underlying22 h35]
        simp
      · simpa using hb
    | some ad =>
      obtain ⟨m, hm⟩ : ∃ m, m = min sn dn := ⟨_, rfl⟩
      rw [← hm]
      have hl : ((gs.take m).length) = m := by rw [List.length_take, ← hf.1]; omega
      have hcl : (cellsF (gs.take m)).length = m * 2 := by rw [cellsF_len, hl]
      have hrun := run_copy2 w o.type g dn dcap ad sn scap (cellsF fs).toArray (cellsF (gs.take m)) m hm hb hcl (by
        intro j v hv
        obtain ⟨k, hk, hc⟩ := cellsF_get _ _ _ hv
        rw [hl] at hk
        obtain ⟨p, o, e, hcells⟩ := hf.2 (by omega)
        cases e
        have e2 : (gs.take m).getD k fl0 = gs.getD k fl0 := by
          rw [List.getD_eq_getElem?_getD, List.getD_eq_getElem?_getD, List.getElem?_take, if_pos hk]
        have hadd : ∀ i, (⟨p, o, none⟩ : Addr).add i = ⟨p, o + i, none⟩ := fun i => by unfold Addr.add; split <;> simp_all
        rw [e2] at hc
        rcases hc with ⟨rfl, rfl⟩ | ⟨rfl, rfl⟩
        · rw [hadd]; exact (hcells k (by omega)).1
        · rw [hadd, ← Nat.add_assoc]; exact (hcells k (by omega)).2) (by simp [hcl, cellsF_len]; omega) (cellsF_one _)
      refine ⟨_, hrun, ?_, fun B w0 hB h => h.trans ⟨rfl, rfl, rfl, by simp [World.setRow], fun k hk => setRow_other w g k _ (by omega)⟩⟩
      unfold Blk
      rw [setRow_heap w g _ _ 35 _ hb, hcl, cellsF_append]
      simp [cellsF_drop]
  obtain ⟨w', hrun, hb', hk⟩ := key
  unfold Oper.wp
  simp [execOp, ho, resolve, invoke, builtin, hd, hs, hrun, Result.andThen]
  exact hK _ _ (h w' hb' hk)
theorem cellsF_set (fs : List Fl) (k : Nat) (x : List UInt8) (h : k < fs.length) : (cellsF fs).set (k * 2) (S x) = cellsF (fs.set k (x, (fs.getD k fl0).2)) := by
  induction fs generalizing k with
  | nil => simp at h
  | cons f l ih =>
    have e : cellsF (f :: l) = S f.1 :: S f.2 :: cellsF l := by simp [cellsF]
    cases k with
    | zero => simp [cellsF]
    | succ k =>
      rw [e, show (k + 1) * 2 = k * 2 + 1 + 1 by omega, List.set_cons_succ, List.set_cons_succ, ih k (by simpa using h), List.set_cons_succ]
      simp [cellsF]
theorem Blk.set {g : Nat} {fs : List Fl} {w : World} (h : Blk g fs w) (k : Nat) (hk : k < fs.length) (x : List UInt8) : Blk g (fs.set k (x, (fs.getD k fl0).2)) (w.setCell ⟨g, k * 2, none⟩ (S x)) := by
  unfold Blk
  rw [heap_setCell_same w g (k * 2) _ 35 _ h, ← cellsF_set fs k x hk]
  simp
def spare : Fl := ([115, 112, 97, 114, 101], [])
/-- How far the spare fields are laid. -/
def mid (fs : List Fl) (j : Nat) : List Fl := fs ++ (List.replicate j spare ++ List.replicate (4 - j) fl0)
theorem mid_len (fs : List Fl) (j : Nat) (h : j ≤ 4) : (mid fs j).length = fs.length + 4 := by simp [mid]; omega
theorem mid_set (fs : List Fl) (j : Nat) (h : j < 4) : (mid fs j).set (fs.length + j) ([115, 112, 97, 114, 101], ((mid fs j).getD (fs.length + j) fl0).2) = mid fs (j + 1) := by
  have e : 4 - j = (4 - (j + 1)) + 1 := by omega
  unfold mid
  rw [List.set_append, if_neg (by omega), Nat.add_sub_cancel_left, List.set_append, if_neg (by simp)]
  simp only [List.length_replicate, Nat.sub_self]
  rw [e, List.replicate_succ, List.set_cons_zero, List.replicate_succ' (n := j), List.append_assoc]
  congr 2
  simp [fl0, spare]
set_option maxHeartbeats 4000000 in
set_option maxRecDepth 8000 in
theorem lent_any (a : Option Addr) (n cap : Nat) (fs : List Fl) (w : World) (hp : Fls w a n fs) (hnone : a = none → cap = 0) (hn : n ≤ 100000000000) :
    Calls Tryz.prog 36 #[.slice a n cap] w fun e w' => e = .returned (.slice (some ⟨w.heap.size, 0, none⟩) (n + 4) (n + 4)) ∧ Blk w.heap.size (mid fs 4) w' ∧ Below w.heap.size w w' := by
  have HN := hide hp.1
  have HP := hide hp
  have HO := hide hnone
  clear hp hnone
  go_enter Tryz.func36, Tryz.ntmps36
  go_wp2_with (first | (refine makeF rfl (.tmp 7) (.tmp 7) rfl _ _ (n + 4) (by rfl) (by rfl) (by omega) (by omega) (by omega) ?_; intro w1 hb1 k1) | (refine copyF rfl (.tmp 9) (.tmp 10) rfl w.heap.size (n + 4) (n + 4) a n cap (by rfl) (by rfl) (List.replicate (n + 4) fl0) fs hb1 ((unhide HP).below k1) (unhide HO) (by simp) ?_; intro w2 hb2 k2))
  have hb3 : Blk w.heap.size (mid fs 0) w2 := by
    have e1 : min n (n + 4) = n := by omega
    rw [e1, List.take_of_length_le (by have := unhide HN; omega), List.drop_replicate, show n + 4 - n = 4 by omega] at hb2
    exact hb2
  have HB3 := hide hb3
  have K3 := hide (k2 _ _ (Nat.le_refl _) k1)
  clear hb1 k1 hb2 k2 hb3
  go_loopw [4] (fun i wr => ∃ j : Nat, j ≤ 4 ∧ i = .int .i64 ((n + j : Nat) : Int) ∧ Blk w.heap.size (mid fs j) wr ∧ Below w.heap.size w wr) (fun i _ => n + 4 - (Go.RowKit.intOf i).toNat)
  case atStart => exact ⟨0, by omega, by simp, unhide HB3, unhide K3⟩
  case round =>
    obtain ⟨j, hj, rfl, hb, hbr⟩ := hrel
    clear HB3 K3
    obtain ⟨k, hk⟩ : ∃ k, k = n + j := ⟨_, rfl⟩
    rw [← hk]
    by_cases hlt : j < 4
    · have hfl := hb.fls.at (j := k) (by rw [mid_len fs j hj, ← unhide HN]; omega)
      obtain ⟨p, o, e, _, hc0, _⟩ := hfl
      simp only [Option.some.injEq, Addr.mk.injEq, and_true] at e
      obtain ⟨rfl, rfl⟩ := e
      rw [Nat.zero_add] at hc0
      have hz : wr.frozen? ⟨w.heap.size, k * 2, none⟩ = false := frozen_of_heap hb (k * 2)
      have hset := hb.set k (by rw [mid_len fs j hj, ← unhide HN]; omega) [115, 112, 97, 114, 101]
      rw [hk, unhide HN, mid_set fs j hlt, ← unhide HN, ← hk] at hset
      have HS := hide hset
      have HK := hide (hbr.setCell (p := ⟨w.heap.size, k * 2, none⟩) (Nat.le_refl _) (S [115, 112, 97, 114, 101]))
      have i1 : (k : Int) < (n : Int) + 4 := by omega
      generalize ((mid fs j).getD k fl0).1 = old at *
      clear hset hb
      have HKk := hide hk
      clear hk
      go_wp2
      have := unhide HKk
      refine ⟨⟨j + 1, by omega, ?_, unhide HS, unhide HK⟩, ?_⟩
      · congr 1; omega
      · simp [Go.RowKit.intOf]; omega
    · obtain rfl : j = 4 := by omega
      have hd : decide (k < n + 4) = false := by simp; omega
      have hd2 : ¬ (k : Int) < (n : Int) + 4 := by omega
      have HB := hide hb
      clear hb hk
      go_wp2
      go_ret
      exact ⟨rfl, unhide HB, hbr⟩
end Go.Proofs.YthlacailhfhjnaaGreatDoor
namespace Go.Proofs.YthlacailhfhjnaaGreatDoor
open Go.RowKit Go.Lib
def over : Fl := ([111, 118, 101, 114], [])
/-- How far it is written over. -/
def ovr (l : List Fl) (k : Nat) : List Fl := List.replicate k over ++ l.drop k
theorem ovr_len (l : List Fl) (k : Nat) (h : k ≤ l.length) : (ovr l k).length = l.length := by simp [ovr]; omega
theorem ovr_at (l : List Fl) (k : Nat) : (ovr l k).getD k fl0 = l.getD k fl0 := by
  unfold ovr
  rw [List.getD_eq_getElem?_getD, List.getElem?_append_right (by simp), List.getElem?_drop, List.getD_eq_getElem?_getD]
  simp
theorem ovr_set (l : List Fl) (k : Nat) (h : k < l.length) : (ovr l k).set k over = ovr l (k + 1) := by
  unfold ovr
  rw [List.set_append, if_neg (by simp)]
  simp only [List.length_replicate, Nat.sub_self]
  rw [List.drop_eq_getElem_cons h, List.set_cons_zero, List.replicate_succ', List.append_assoc]
  rfl
theorem cellsF_set2 (fs : List Fl) (k : Nat) (f : Fl) (h : k < fs.length) : ((cellsF fs).set (k * 2) (S f.1)).set (k * 2 + 1) (S f.2) = cellsF (fs.set k f) := by
  induction fs generalizing k with
  | nil => simp at h
  | cons g l ih =>
    have e : ∀ (g : Fl) (l : List Fl), cellsF (g :: l) = S g.1 :: S g.2 :: cellsF l := fun g l => by simp [cellsF]
    cases k with
    | zero => simp [cellsF]
    | succ k =>
      rw [e, show (k + 1) * 2 = k * 2 + 1 + 1 by omega, List.set_cons_succ, List.set_cons_succ, List.set_cons_succ, List.set_cons_succ, ih k (by simpa using h), List.set_cons_succ, e]
theorem Blk.set2 {g : Nat} {fs : List Fl} {w : World} (h : Blk g fs w) (k : Nat) (hk : k < fs.length) (f : Fl) : Blk g (fs.set k f) ((w.setCell ⟨g, k * 2, none⟩ (S f.1)).setCell ⟨g, k * 2 + 1, none⟩ (S f.2)) := by
  unfold Blk
  have q := heap_setCell_same w g (k * 2) _ 35 (S f.1) h
  rw [heap_setCell_same _ g (k * 2 + 1) _ 35 _ q, ← cellsF_set2 fs k f hk]
  simp
theorem mid_lo (fs : List Fl) (k : Nat) (h : k < fs.length) : (mid fs 4).getD k fl0 = fs.getD k fl0 := by
  unfold mid
  rw [List.getD_eq_getElem?_getD, List.getElem?_append_left h, List.getD_eq_getElem?_getD]
theorem mid_hi (fs : List Fl) (k : Nat) (h1 : fs.length ≤ k) (h2 : k < fs.length + 4) : (mid fs 4).getD k fl0 = spare := by
  obtain ⟨j, rfl⟩ : ∃ j, k = fs.length + j := ⟨k - fs.length, by omega⟩
  unfold mid
  rw [List.getD_eq_getElem?_getD, List.getElem?_append_right (by omega), Nat.add_sub_cancel_left]
  rcases (by omega : j = 0 ∨ j = 1 ∨ j = 2 ∨ j = 3) with rfl | rfl | rfl | rfl <;> rfl
set_option maxHeartbeats 8000000 in
set_option maxRecDepth 8000 in
theorem kept_any (g : Nat) (a : Option Addr) (cap : Nat) (fs : List Fl) (w0 w : World) (hb : Blk g (mid fs 4) w) (hp : Fls w0 a fs.length fs) (h0 : Below w0.heap.size w0 w) (hg : w0.heap.size ≤ g) (hn : fs.length ≤ 100000000000) :
    Calls Tryz.prog 42 #[.slice (some ⟨g, 0, none⟩) (fs.length + 4) (fs.length + 4), .slice a fs.length cap] w fun e w' => e = .returned (.bool true) ∧ Only (fun k => k = g) w w' := by
  have HB := hide hb
  have HP := hide (And.intro hp h0)
  clear hb hp h0
  have hml := mid_len fs 4 (Nat.le_refl _)
  go_enter Tryz.func42, Tryz.ntmps42
  go_wp2
  go_loopw [5, 6] (fun c i wr => ∃ k : Nat, k ≤ fs.length + 4 ∧ i = .int .i64 k ∧ c = .bool true ∧ Blk g (ovr (mid fs 4) k) wr ∧ Only (fun k => k = g) w wr) (fun _ i _ => fs.length + 4 - (Go.RowKit.intOf i).toNat)
  case atStart => exact ⟨0, by omega, rfl, rfl, by simpa [ovr] using unhide HB, Only.refl _ _⟩
  case round =>
    obtain ⟨k, hk, rfl, rfl, hbk, ho⟩ := hrel
    clear HB
    by_cases hlt : k < fs.length + 4
    · have hlt' : (k : Int) < (fs.length : Int) + 4 := by omega
      have hol : (ovr (mid fs 4) k).length = fs.length + 4 := by rw [ovr_len _ _ (by omega), hml]
      obtain ⟨p, o, e, _, hc0, hc1⟩ := hbk.fls.at (j := k) (by omega)
      simp only [Option.some.injEq, Addr.mk.injEq, and_true] at e
      obtain ⟨rfl, rfl⟩ := e
      rw [Nat.zero_add, ovr_at _ _] at hc0 hc1
      have HBK := hide hbk
      have HOO := hide ho
      have hbel : Below w0.heap.size w0 wr := ho.below (unhide HP).2 (unhide HP).2.size (fun j hj => by subst hj; exact hg)
      by_cases hkn : k < fs.length
      · have hkn' : (k : Int) < (fs.length : Int) := by omega
        rw [mid_lo _ _ hkn] at hc0 hc1
        obtain ⟨p2, o2, rfl, _, g0, g1⟩ := ((unhide HP).1.below hbel).at hkn
        generalize fs.getD k fl0 = F at *
        obtain ⟨fn, fv⟩ := F
        simp only at hc0 hc1 g0 g1
        clear hbk ho hbel
        have hd1 : decide ((k : Int) < (fs.length : Int)) = true := by simp; omega
        have hd2 : decide ((fs.length : Int) ≤ (k : Int)) = false := by simp; omega
        have hd3 : decide (k < fs.length) = true := by simp; omega
        have hd4 : decide (fs.length ≤ k) = false := by simp; omega
        go_wp2_with fail
        go_quiet (fail)
        clear hc0 hc1 g0 g1
        have hbv := (unhide HBK).keep (below_dN (Below.refl _ _) nq)
        have hov := (unhide HOO).trans (Only.drewN (fun k => k = g) wr nq) (fun _ _ q => q)
        generalize wr.drewN nq = wv at *
        obtain ⟨p3, o3, e, _, c0, c1⟩ := hbv.fls.at (j := k) (by omega)
        simp only [Option.some.injEq, Addr.mk.injEq, and_true] at e
        obtain ⟨rfl, rfl⟩ := e
        rw [Nat.zero_add] at c0 c1
        have hz : ∀ j, wv.frozen? ⟨g, j, none⟩ = false := fun j => frozen_of_heap hbv j
        have hset := hbv.set2 k (by omega) over
        rw [ovr_set _ _ (by omega)] at hset
        have HS := hide hset
        have HO := hide ((hov.put ⟨g, k * 2, none⟩ (S over.1) (.inl rfl)).put ⟨g, k * 2 + 1, none⟩ (S over.2) (.inl rfl))
        generalize (ovr (mid fs 4) k).getD k fl0 = G at *
        clear hset hbv hov HBK HOO hd1 hd2 hd3 hd4
        go_wp2
        exact ⟨⟨k + 1, by omega, by go_num, rfl, unhide HS, unhide HO⟩, by simp [Go.RowKit.intOf]; omega⟩
      · have hkn' : ¬ (k : Int) < (fs.length : Int) := by omega
        rw [mid_hi _ _ (by omega) hlt] at hc0 hc1
        have g0 : wr.cell? ⟨g, k * 2, none⟩ = some (S [115, 112, 97, 114, 101]) := hc0
        have g1 : wr.cell? ⟨g, k * 2 + 1, none⟩ = some (S []) := hc1
        clear hbk ho hbel hc0 hc1
        have hd1 : decide ((k : Int) < (fs.length : Int)) = false := by simp; omega
        have hd2 : decide ((fs.length : Int) ≤ (k : Int)) = true := by simp; omega
        have hd3 : decide (k < fs.length) = false := by simp; omega
        have hd4 : decide (fs.length ≤ k) = true := by simp; omega
        go_wp2_with fail
        go_quiet (fail)
        clear g0 g1
        have hbv := (unhide HBK).keep (below_dN (Below.refl _ _) nq)
        have hov := (unhide HOO).trans (Only.drewN (fun k => k = g) wr nq) (fun _ _ q => q)
        generalize wr.drewN nq = wv at *
        obtain ⟨p3, o3, e, _, c0, c1⟩ := hbv.fls.at (j := k) (by omega)
        simp only [Option.some.injEq, Addr.mk.injEq, and_true] at e
        obtain ⟨rfl, rfl⟩ := e
        rw [Nat.zero_add] at c0 c1
        have hz : ∀ j, wv.frozen? ⟨g, j, none⟩ = false := fun j => frozen_of_heap hbv j
        have hset := hbv.set2 k (by omega) over
        rw [ovr_set _ _ (by omega)] at hset
        have HS := hide hset
        have HO := hide ((hov.put ⟨g, k * 2, none⟩ (S over.1) (.inl rfl)).put ⟨g, k * 2 + 1, none⟩ (S over.2) (.inl rfl))
        generalize (ovr (mid fs 4) k).getD k fl0 = G at *
        clear hset hbv hov HBK HOO hd1 hd2 hd3 hd4
        go_wp2
        exact ⟨⟨k + 1, by omega, by go_num, rfl, unhide HS, unhide HO⟩, by simp [Go.RowKit.intOf]; omega⟩
    · have hd : decide ((k : Int) < (fs.length : Int) + 4) = false := by simp; omega
      have HO := hide ho
      clear ho hbk
      go_wp2
      go_ret
      exact ⟨rfl, unhide HO⟩
end Go.Proofs.YthlacailhfhjnaaGreatDoor
namespace Go.Proofs.YthlacailhfhjnaaGreatDoor
open Go.RowKit Go.Lib
/-- append([]Field(nil), l...): fields in a row of one's own. -/
theorem wp_appF {ops : Array Oper} {rest : List Oper} {o : Oper} {a : Act} {w : World} {Q : Exit → Act → World → Prop} (hgd : o.guard = none) (s x : Operand)
    (ho : o.op = .call { callee := .builtin .append, args := #[s, x], argTypes := #[22, 22] }) (hs : a.eval s = .slice none 0 0)
    (g n cap : Nat) (F : List Fl) (hx : a.eval x = .slice (some ⟨g, 0, none⟩) n cap) (hf : Fls w (some ⟨g, 0, none⟩) n F) (hlen : n ≤ 1000000000000)
    (h : ∀ p c w', w'.ownsRow 0 35 2 (.slice p n c) n (cellsF F) → Below w.heap.size w w' → (∀ k, (Value.slice p n c).ownBlock = some k → w.heap.size ≤ k) → wpList Tryz.prog ops Q rest (a.put o.dst (.slice p n c)) w') : wpList Tryz.prog ops Q (o :: rest) a w := by
  obtain ⟨i0, hi, hz0, hz1, hz2⟩ := info_parts info35
  refine wpList_append_own_at w hgd s x 22 ho 0 35 i0 _ 2 32 Tryz.underlying22 hi hz0 hz1 hz2 rfl (by decide) (.slice none 0 0) 0 [] hs (World.ownsRow_nil _ _ _ _) ⟨g, 0, none⟩ n cap (cellsF F) hx (by rw [cellsF_len, hf.1]) ?_ (cellsF_one F) (by unfold maxLen; omega) (by omega) (Nat.zero_le _) ?_
  · intro j v hv
    obtain ⟨k, hk, hc⟩ := cellsF_get _ _ _ hv
    rw [← hf.1] at hk
    obtain ⟨p, q, e, hcells⟩ := hf.2 (by omega)
    cases e
    have hadd : ∀ i, (⟨g, 0, none⟩ : Addr).add i = ⟨g, 0 + i, none⟩ := fun i => by unfold Addr.add; split <;> simp_all
    rcases hc with ⟨rfl, rfl⟩ | ⟨rfl, rfl⟩
    · rw [hadd]; exact (hcells k hk).1
    · rw [hadd, ← Nat.add_assoc]; exact (hcells k hk).2
  · intro v' w' ho' hg _ hat
    rw [Nat.zero_add, List.nil_append] at ho'
    obtain ⟨p, c, rfl⟩ := owns_form ho'
    refine h p c w' ho' ((Below.refl _ _).grown hg (Nat.le_refl _) (fun k hk => by cases hk)) (fun k hk => ?_)
    rcases hat with q | q
    · rw [q] at hk; cases hk
    · rw [hk] at q
      have := Option.some.inj q
      omega
/-- A list, turned round so far. -/
def rvd (l : List Fl) (i : Nat) : List Fl := l.reverse.take i ++ l.drop i
theorem rvd_len (l : List Fl) (i : Nat) (h : i ≤ l.length) : (rvd l i).length = l.length := by simp [rvd]; omega
theorem rvd_zero (l : List Fl) : rvd l 0 = l := by simp [rvd]
theorem rvd_all (l : List Fl) : rvd l l.length = l.reverse := by
  unfold rvd
  rw [List.take_of_length_le (by simp), List.drop_of_length_le (by simp), List.append_nil]
theorem rvd_set (l : List Fl) (i : Nat) (h : i < l.length) : (rvd l i).set i (l.getD (l.length - 1 - i) fl0) = rvd l (i + 1) := by
  unfold rvd
  have hl : (l.reverse.take i).length = i := by simp; omega
  have e : l.getD (l.length - 1 - i) fl0 = l.reverse[i]'(by simpa using h) := by
    rw [List.getElem_reverse]
    have : l.length - 1 - i < l.length := by omega
    simp [this]
  rw [e, List.set_append, if_neg (by omega), hl, Nat.sub_self, List.drop_eq_getElem_cons h, List.set_cons_zero, List.take_succ_eq_append_getElem (by simpa using h), List.append_assoc]
  rfl
theorem rvd_lens {l : List Fl} (h : Lens l) : Lens l.reverse := by
  intro j
  by_cases hj : j < l.length
  · have e : l.reverse.getD j fl0 = l.getD (l.length - 1 - j) fl0 := by
      have h1 : j < l.reverse.length := by simpa using hj
      have h2 : l.length - 1 - j < l.length := by omega
      simp [h2, hj]
    rw [e]
    exact h _
  · have e : l.reverse.getD j fl0 = fl0 := by simp [List.getD, show l.reverse[j]? = none from List.getElem?_eq_none (by simp; omega)]
    rw [e]
    exact ⟨Nat.zero_le _, Nat.zero_le _⟩
/-- What lies in a lent block: so many fields, and four spare ones. -/
theorem Blk.front {g : Nat} {l t : List Fl} {w : World} (h : Blk g (l ++ t) w) : Fls w (some ⟨g, 0, none⟩) l.length l := by
  have q := h.fls
  refine ⟨rfl, fun h0 => ?_⟩
  obtain ⟨p, o, e, hc⟩ := q.2 (by simp; omega)
  refine ⟨p, o, e, fun j hj => ?_⟩
  have := hc j (by simp; omega)
  have e2 : (l ++ t).getD j fl0 = l.getD j fl0 := by
    rw [List.getD_eq_getElem?_getD, List.getElem?_append_left hj, List.getD_eq_getElem?_getD]
  rw [e2] at this
  exact this
end Go.Proofs.YthlacailhfhjnaaGreatDoor
namespace Go.Proofs.YthlacailhfhjnaaGreatDoor
open Go.RowKit Go.Lib
def sp4 : List Fl := List.replicate 4 spare
theorem mid_sp (l : List Fl) : mid l 4 = l ++ sp4 := by simp [mid, sp4]
/-- What holds ahead of a turn: the two boxes, and the two lent blocks. -/
structure Prt (w : World) (P2 P3 g1 g2 : Nat) (mm mp mb : Bs) (st : Int) (ba : Bs) (lm la : List Fl) (wr : World) : Prop where
  x2 : ∃ a c, wr.heap[P2]? = some (.cells #[S mm, S mp, .slice a lm.length c, S mb] 24 (0, 0))
  x3 : ∃ a c, wr.heap[P3]? = some (.cells #[.int .i64 st, .slice a la.length c, S ba] 26 (0, 0))
  y1 : Blk g1 (lm ++ sp4) wr
  y2 : Blk g2 (la ++ sp4) wr
  ne : g1 ≠ g2
  ge : w.heap.size ≤ P2 ∧ w.heap.size ≤ P3 ∧ w.heap.size ≤ g1 ∧ w.heap.size ≤ g2
  bel : Below w.heap.size w wr
/-- What holds inside a turn: the boxes of x and y too, with rows of their own. -/
structure Pal (w : World) (P2 P3 g1 g2 X5 X8 : Nat) (mm mp mb : Bs) (st : Int) (ba : Bs) (lm la l1 l2 : List Fl) (v2 v3 V1 V2 : Value) (wr : World) : Prop where
  x2 : wr.heap[P2]? = some (.cells #[S mm, S mp, v2, S mb] 24 (0, 0))
  x3 : wr.heap[P3]? = some (.cells #[.int .i64 st, v3, S ba] 26 (0, 0))
  x5 : wr.heap[X5]? = some (.cells #[S mm, S mp, V1, S mb] 24 (0, 0))
  x8 : wr.heap[X8]? = some (.cells #[.int .i64 st, V2, S ba] 26 (0, 0))
  y1 : Blk g1 (l1 ++ sp4) wr
  y2 : Blk g2 (l2 ++ sp4) wr
  o1 : wr.ownsRow 0 35 2 V1 lm.length (cellsF lm)
  o2 : wr.ownsRow 0 35 2 V2 la.length (cellsF la)
  n1 : g1 ≠ g2
  n2 : P2 ≠ X5
  n3 : P3 ≠ X8
  n4 : V1.ownBlock ≠ some g1 ∧ V1.ownBlock ≠ some g2 ∧ V2.ownBlock ≠ some g1 ∧ V2.ownBlock ≠ some g2
  ge : w.heap.size ≤ P2 ∧ w.heap.size ≤ P3 ∧ w.heap.size ≤ g1 ∧ w.heap.size ≤ g2
  bel : Below w.heap.size w wr
variable {w wr w' : World} {P2 P3 g1 g2 X5 X8 : Nat} {mm mp mb ba : Bs} {st : Int} {lm la l1 l2 : List Fl} {v2 v3 V1 V2 : Value}
theorem Prt.below (h : Prt w P2 P3 g1 g2 mm mp mb st ba lm la wr) (hb : Below wr.heap.size wr w') : Prt w P2 P3 g1 g2 mm mp mb st ba lm la w' := by
  obtain ⟨a, c, x2⟩ := h.x2
  obtain ⟨a', c', x3⟩ := h.x3
  exact ⟨⟨a, c, (hb.block _ (lt_of_row x2)).trans x2⟩, ⟨a', c', (hb.block _ (lt_of_row x3)).trans x3⟩, h.y1.keep hb, h.y2.keep hb, h.ne, h.ge, h.bel.trans (hb.mono h.bel.size)⟩
theorem blk_ne {a b : Nat} {cs cs' : Array Value} {T T' : TypeId} (h1 : wr.heap[a]? = some (.cells cs T (0, 0))) (h2 : wr.heap[b]? = some (.cells cs' T' (0, 0))) (hT : T ≠ T') : a ≠ b := by
  intro e
  subst e
  have := h1.symm.trans h2
  simp only [Option.some.injEq, Obj.cells.injEq] at this
  exact hT this.2.1
theorem own_ne {a n m : Nat} {cs : Array Value} {T : TypeId} {v : Value} {xs : List Value} (h1 : wr.heap[a]? = some (.cells cs T (0, 0))) (h2 : wr.ownsRow 0 35 n v m xs) (hT : T ≠ 35) : ∀ k, v.ownBlock = some k → k ≠ a := by
  intro k hk
  obtain ⟨cs', q⟩ := owns_lt h2 k hk
  exact blk_ne q h1 (fun e => hT e.symm)
theorem Pal.below (h : Pal w P2 P3 g1 g2 X5 X8 mm mp mb st ba lm la l1 l2 v2 v3 V1 V2 wr) (hb : Below wr.heap.size wr w') : Pal w P2 P3 g1 g2 X5 X8 mm mp mb st ba lm la l1 l2 v2 v3 V1 V2 w' := by
  have ow : ∀ {V : Value} {l : List Fl}, wr.ownsRow 0 35 2 V l.length (cellsF l) → w'.ownsRow 0 35 2 V l.length (cellsF l) := fun q => owns_same q (fun k hk => by
    obtain ⟨cs, r⟩ := owns_lt q k hk
    exact hb.block k (lt_of_row r))
  exact ⟨(hb.block _ (lt_of_row h.x2)).trans h.x2, (hb.block _ (lt_of_row h.x3)).trans h.x3, (hb.block _ (lt_of_row h.x5)).trans h.x5, (hb.block _ (lt_of_row h.x8)).trans h.x8, h.y1.keep hb, h.y2.keep hb, ow h.o1, ow h.o2, h.n1, h.n2, h.n3, h.n4, h.ge, h.bel.trans (hb.mono h.bel.size)⟩
theorem blk_keep {g k : Nat} {l : List Fl} {v : Value} {j : Nat} (h : Blk g l wr) (hne : g ≠ k) : Blk g l (wr.setCell ⟨k, j, none⟩ v) := by
  unfold Blk
  rw [heap_setCell_other wr ⟨k, j, none⟩ g v hne]
  exact h
theorem Pal.set2 (h : Pal w P2 P3 g1 g2 X5 X8 mm mp mb st ba lm la l1 l2 v2 v3 V1 V2 wr) (v : Value) : Pal w P2 P3 g1 g2 X5 X8 mm mp mb st ba lm la l1 l2 v v3 V1 V2 (wr.setCell ⟨P2, 2, none⟩ v) := by
  have n23 := blk_ne h.x3 h.x2 (by decide)
  have n28 := blk_ne h.x8 h.x2 (by decide)
  have m1 := blk_ne h.y1 h.x2 (by decide)
  have m2 := blk_ne h.y2 h.x2 (by decide)
  refine ⟨heap_setCell_same wr P2 2 _ 24 v h.x2, (heap_setCell_other wr _ _ v n23).trans h.x3, (heap_setCell_other wr _ _ v h.n2.symm).trans h.x5, (heap_setCell_other wr _ _ v n28).trans h.x8, blk_keep h.y1 m1, blk_keep h.y2 m2, owns_same h.o1 (fun k hk => heap_setCell_other wr _ _ v (own_ne h.x2 h.o1 (by decide) k hk)), owns_same h.o2 (fun k hk => heap_setCell_other wr _ _ v (own_ne h.x2 h.o2 (by decide) k hk)), h.n1, h.n2, h.n3, h.n4, h.ge, h.bel.setCell h.ge.1 _⟩
theorem Pal.set3 (h : Pal w P2 P3 g1 g2 X5 X8 mm mp mb st ba lm la l1 l2 v2 v3 V1 V2 wr) (v : Value) : Pal w P2 P3 g1 g2 X5 X8 mm mp mb st ba lm la l1 l2 v2 v V1 V2 (wr.setCell ⟨P3, 1, none⟩ v) := by
  have n23 := blk_ne h.x2 h.x3 (by decide)
  have n28 := blk_ne h.x5 h.x3 (by decide)
  have m1 := blk_ne h.y1 h.x3 (by decide)
  have m2 := blk_ne h.y2 h.x3 (by decide)
  refine ⟨(heap_setCell_other wr _ _ v n23).trans h.x2, heap_setCell_same wr P3 1 _ 26 v h.x3, (heap_setCell_other wr _ _ v n28).trans h.x5, (heap_setCell_other wr _ _ v h.n3.symm).trans h.x8, blk_keep h.y1 m1, blk_keep h.y2 m2, owns_same h.o1 (fun k hk => heap_setCell_other wr _ _ v (own_ne h.x3 h.o1 (by decide) k hk)), owns_same h.o2 (fun k hk => heap_setCell_other wr _ _ v (own_ne h.x3 h.o2 (by decide) k hk)), h.n1, h.n2, h.n3, h.n4, h.ge, h.bel.setCell h.ge.2.1 _⟩
theorem two_other {g k i j : Nat} {v v' : Value} (hne : k ≠ g) : ((wr.setCell ⟨g, i, none⟩ v).setCell ⟨g, j, none⟩ v').heap[k]? = wr.heap[k]? :=
  (heap_setCell_other _ ⟨g, j, none⟩ k v' hne).trans (heap_setCell_other wr ⟨g, i, none⟩ k v hne)
theorem Pal.put1 (h : Pal w P2 P3 g1 g2 X5 X8 mm mp mb st ba lm la l1 l2 v2 v3 V1 V2 wr) (i : Nat) (hi : i < l1.length) (f : Fl) : Pal w P2 P3 g1 g2 X5 X8 mm mp mb st ba lm la (l1.set i f) l2 v2 v3 V1 V2 ((wr.setCell ⟨g1, i * 2, none⟩ (S f.1)).setCell ⟨g1, i * 2 + 1, none⟩ (S f.2)) := by
  have q := h.y1.set2 i (by simp; omega) f
  rw [List.set_append, if_pos hi] at q
  refine ⟨(two_other (blk_ne h.x2 h.y1 (by decide))).trans h.x2, (two_other (blk_ne h.x3 h.y1 (by decide))).trans h.x3, (two_other (blk_ne h.x5 h.y1 (by decide))).trans h.x5, (two_other (blk_ne h.x8 h.y1 (by decide))).trans h.x8, q, (two_other h.n1.symm).trans h.y2, owns_same h.o1 (fun k hk => two_other (fun e => h.n4.1 (by rw [hk, e]))), owns_same h.o2 (fun k hk => two_other (fun e => h.n4.2.2.1 (by rw [hk, e]))), h.n1, h.n2, h.n3, h.n4, h.ge, (h.bel.setCell h.ge.2.2.1 _).setCell h.ge.2.2.1 _⟩
theorem Pal.put2 (h : Pal w P2 P3 g1 g2 X5 X8 mm mp mb st ba lm la l1 l2 v2 v3 V1 V2 wr) (i : Nat) (hi : i < l2.length) (f : Fl) : Pal w P2 P3 g1 g2 X5 X8 mm mp mb st ba lm la l1 (l2.set i f) v2 v3 V1 V2 ((wr.setCell ⟨g2, i * 2, none⟩ (S f.1)).setCell ⟨g2, i * 2 + 1, none⟩ (S f.2)) := by
  have q := h.y2.set2 i (by simp; omega) f
  rw [List.set_append, if_pos hi] at q
  refine ⟨(two_other (blk_ne h.x2 h.y2 (by decide))).trans h.x2, (two_other (blk_ne h.x3 h.y2 (by decide))).trans h.x3, (two_other (blk_ne h.x5 h.y2 (by decide))).trans h.x5, (two_other (blk_ne h.x8 h.y2 (by decide))).trans h.x8, (two_other h.n1).trans h.y1, q, owns_same h.o1 (fun k hk => two_other (fun e => h.n4.2.1 (by rw [hk, e]))), owns_same h.o2 (fun k hk => two_other (fun e => h.n4.2.2.2 (by rw [hk, e]))), h.n1, h.n2, h.n3, h.n4, h.ge, (h.bel.setCell h.ge.2.2.2 _).setCell h.ge.2.2.2 _⟩
end Go.Proofs.YthlacailhfhjnaaGreatDoor
