import Derived.Test.YtpelmacblglhoaaZzac
import Derived.Shelf.Bits.Mul64
import Derived.RegionTactic
import Derived.BigRegion
namespace Go.Proofs.Ytpelmacblglhoaa
open Go.RowKit
set_option maxHeartbeats 4000000
set_option maxRecDepth 8000
theorem Try.bits_Mul (x y : Nat) (hx : x < 18446744073709551616) (hy : y < 18446744073709551616) (w : World) :
    Calls Try.prog 60 #[.int .u64 x, .int .u64 y] w fun e w' => e = .returned (.tuple #[.int .u64 ((x * y / 18446744073709551616 : Nat) : Int), .int .u64 ((x * y % 18446744073709551616 : Nat) : Int)]) ∧ w' = w := Any.bits_Mul { Try.lays105 with } x y hx hy w
/-- What copy does: things of sz cells each. -/
theorem run_copyk (w : World) (T e ty : TypeId) (z : Value) (sz bys : Nat) (ht : Try.prog.underlying T = some (.slice e)) (hinfo : (Try.prog.info? e).map (fun i => (i.zero, i.size, i.bytes)) = some (some z, sz, bys))
    (g off dn dcap : Nat) (ad : Addr) (sn scap : Nat) (cur : Array Value) (cs : List Value) (m : Nat) (hm : m = Nat.min sn dn) (hg : w.heap[g]? = some (.cells cur e (0, 0))) (hn : cs.length = m * sz)
    (hsrc : ∀ j v, cs[j]? = some v → w.cell? (ad.add j) = some v) (hfit : off + cs.length ≤ cur.size) (h1 : ∀ v ∈ cs, v.oneCell' = true) :
    (Builtin.copy_ #[T, T] ty #[.slice (some ⟨g, off, none⟩) dn dcap, .slice (some ad) sn scap]).run Try.prog w =
      .ok (goInt m) (w.setRow g (cur.toList.take off ++ cs ++ cur.toList.drop (off + cs.length)).toArray) := by
  have hl := run_loadCells_list (P := Try.prog) w ad cs hsrc
  have hst := run_storeCells_at Try.prog g off e cs 0 cur w hg (by simpa using hfit) h1
  obtain ⟨i0, hi, hz0, hz1, hz2⟩ := info_parts hinfo
  rw [hn] at hl
  simp only [Nat.add_zero] at hst
  simp [Builtin.copy_, run_underlying ht, Builtin.lenOf, Builtin.firstCells, sizeOf, typeInfo, hi, hz1, ← hm, hl, hst]
theorem wp_copyk {ops : Array Oper} {rest : List Oper} {o : Oper} {a : Act} {w : World} {Q : Exit → Act → World → Prop} (T e : TypeId) (z : Value) (sz bys : Nat) (ht : Try.prog.underlying T = some (.slice e)) (hinfo : (Try.prog.info? e).map (fun i => (i.zero, i.size, i.bytes)) = some (some z, sz, bys)) (hgd : o.guard = none) (d s : Operand)
    (ho : o.op = .call { callee := .builtin .copy, args := #[d, s], argTypes := #[T, T] }) (g off dn dcap : Nat) (ad : Addr) (sn scap : Nat) (hd : a.eval d = .slice (some ⟨g, off, none⟩) dn dcap) (hs : a.eval s = .slice (some ad) sn scap)
    (cur : Array Value) (cs : List Value) (m : Nat) (hm : m = Nat.min sn dn) (hg : w.heap[g]? = some (.cells cur e (0, 0))) (hn : cs.length = m * sz)
    (hsrc : ∀ j v, cs[j]? = some v → w.cell? (ad.add j) = some v) (hfit : off + cs.length ≤ cur.size) (h1 : ∀ v ∈ cs, v.oneCell' = true)
    (h : ∀ w', w' = w.setRow g (cur.toList.take off ++ cs ++ cur.toList.drop (off + cs.length)).toArray → wpList Try.prog ops Q rest (a.put o.dst (goInt m)) w') : wpList Try.prog ops Q (o :: rest) a w := by
  have hr := run_copyk w T e o.type z sz bys ht hinfo g off dn dcap ad sn scap cur cs m hm hg hn hsrc hfit h1
  refine wpList_plain hgd fun K hK => ?_
  unfold Oper.wp
  simp only [execOp, ho, resolve, invoke, builtin, Sem.run_bind, Sem.run_pure, Result.andThen_ok, List.map_toArray, List.map_cons, List.map_nil, hd, hs, hr]
  exact hK _ _ (h _ rfl)
theorem setRow_only (w : World) (g : Nat) (cs : Array Value) : Only (fun k => k = g) w (w.setRow g cs) := ⟨rfl, rfl, rfl, by simp [World.setRow], fun k _ hk => setRow_other w g k _ hk⟩
/-- n times the same text, and then noughts. -/
def rep (x : Bs) (L n : Nat) : List Value := List.replicate n (S x) ++ List.replicate (L - n) (S [])
theorem rep_len (x : Bs) (L n : Nat) (h : n ≤ L) : (rep x L n).length = L := by simp [rep]; omega
theorem rep_next (x : Bs) (L n m : Nat) : (rep x L n).take n ++ List.replicate m (S x) ++ (rep x L n).drop (n + m) = rep x L (n + m) := by
  unfold rep
  have e1 : (List.replicate n (S x) ++ List.replicate (L - n) (S [])).take n = List.replicate n (S x) := by
    rw [List.take_append_of_le_length (by simp)]
    simp
  have e2 : (List.replicate n (S x) ++ List.replicate (L - n) (S [])).drop (n + m) = List.replicate (L - (n + m)) (S []) := by
    rw [List.drop_append, List.drop_of_length_le (by simp)]
    simp
    omega
  rw [e1, e2, List.replicate_append_replicate]
theorem rep_at (x : Bs) (L n j : Nat) (h : j < n) : (rep x L n)[j]? = some (S x) := by
  unfold rep
  rw [List.getElem?_append_left (by simpa using h), List.getElem?_replicate, if_pos h]
/-- The block of which n are laid. -/
structure Rep (g : Nat) (x : Bs) (L n : Nat) (w0 w : World) : Prop where
  row : w.heap[g]? = some (.cells (rep x L n).toArray 9 (0, 0))
  bel : Below w0.heap.size w0 w
theorem rep_start {w : World} {g c : Nat} (h : w.ownsRow 0 9 1 (.slice (some ⟨g, 0, none⟩) c c) c (madeCells (Value.string ⟨#[]⟩).cells (c * 1)).toList) : w.heap[g]? = some (.cells (List.replicate c (S [])).toArray 9 (0, 0)) := by
  rcases h.2 with ⟨q, _⟩ | ⟨g', cap', cur, e1, e0, e2, e3, e4, e5, e6⟩
  · cases q
  · cases e1
    rw [show (Value.string ⟨#[]⟩).cells = #[Value.string ⟨#[]⟩] from rfl, made9, Nat.mul_one, List.take_of_length_le (by simp; omega)] at e6
    rw [e2, ← e6]
theorem Rep.first {w0 w : World} {g c : Nat} {x : Bs} (h : w.heap[g]? = some (.cells (List.replicate c (S [])).toArray 9 (0, 0))) (hb : Below w0.heap.size w0 w) (hg : g = w0.heap.size) : Rep g x c 1 w0 (w.setRow g (((List.replicate c (S [])).toArray.toList.take 0 ++ [S x] ++ (List.replicate c (S [])).toArray.toList.drop (0 + [S x].length)).toArray)) := by
  refine ⟨?_, (setRow_only w g _).below hb hb.size (fun k e => by subst e; omega)⟩
  rw [setRow_heap w g _ _ 9 _ h]
  congr 3
  simp [rep]
theorem Rep.next {c n m : Nat} {x : Bs} {w0 wr : World} (h : Rep w0.heap.size x c n w0 wr) (_ : n + m ≤ c) : Rep w0.heap.size x c (n + m) w0 (wr.drew.setRow w0.heap.size ((rep x c n).toArray.toList.take n ++ List.replicate m (S x) ++ (rep x c n).toArray.toList.drop (n + (List.replicate m (S x)).length)).toArray) := by
  have hd : Below w0.heap.size w0 wr.drew := h.bel.trans ⟨rfl, rfl, rfl, Nat.le_refl _, fun _ _ => rfl⟩
  refine ⟨?_, (setRow_only wr.drew w0.heap.size _).below hd hd.size (fun k e => by subst e; omega)⟩
  rw [setRow_heap wr.drew w0.heap.size _ _ 9 _ h.row, List.length_replicate]
  congr 3
  exact rep_next x c n m
theorem Rep.whole {g c : Nat} {x : Bs} {w0 w : World} (h : Rep g x c c w0 w) (hc : c ≤ 1000000) : w.ownsRow 0 9 1 (.slice (some ⟨g, 0, none⟩) c c) c (List.replicate c (S x)) := by
  have := owns_full (n := 1) (m := c) h.row (by simp [rep]) (by unfold maxLen; omega)
  simpa [rep] using this
theorem repeat_any (g cap : Nat) (x : Bs) (c : Nat) (w : World) (hx : w.cell? ⟨g, 0, none⟩ = some (S x)) (h1 : 1 ≤ c) (hc : c ≤ 1000000) :
    Calls Try.prog 45 #[.slice (some ⟨g, 0, none⟩) 1 cap, I c] w fun e w' => e = .returned (.slice (some ⟨w.heap.size, 0, none⟩) c c) ∧ w'.ownsRow 0 9 1 (.slice (some ⟨w.heap.size, 0, none⟩) c c) c (List.replicate c (S x)) ∧ Below w.heap.size w w' := by
  have hM := Try.bits_Mul 1 c (by omega) (by omega) w
  rw [show 1 * c / 18446744073709551616 = 0 by omega, show 1 * c % 18446744073709551616 = c by omega] at hM
  have HM := hide hM
  have hgl := blk_lt hx
  clear hM
  go_enter Try.func45, Try.ntmps45
  go_wp2_with fail
  refine (unhide HM).mono ?_
  rintro e w0 ⟨rfl, rfl⟩
  go_wp2_with (first | (refine make_own 28 9 _ 1 16 Try.underlying28 info9 rfl (.tmp 29) (.tmp 29) rfl _ _ c rfl rfl rfl rfl (by omega) (by omega) ?_; intro w1 ho1 b1 l1; have HO1 := hide ho1; have HB1 := hide b1; clear ho1 b1) | (refine wp_copyk 28 9 _ 1 16 Try.underlying28 info9 rfl (.tmp 31) (.tmp 32) rfl w0.heap.size 0 c c ⟨g, 0, none⟩ 1 cap rfl rfl _ [S x] 1 (by show 1 = min 1 c; omega) (rep_start (unhide HO1)) rfl (by intro j v hj; match j, hj with | 0, hj => (simp at hj; subst hj; rw [add_at]; exact ((unhide HB1).cell hgl).trans hx) | (j + 1), hj => simp at hj) (by simp; omega) (by intro v hv; simp at hv; subst hv; rfl) ?_; intro w2 e2; have HC := hide (Rep.first (rep_start (unhide HO1)) (unhide HB1) (x := x) rfl); rw [← e2] at HC; clear HO1 HB1 e2) | fail)
  go_loopw [8] (fun i wr => ∃ n : Nat, 1 ≤ n ∧ n ≤ c ∧ i = .int .i64 n ∧ Rep w0.heap.size x c n w0 wr) (fun i _ => c - (Go.RowKit.intOf i).toNat)
  case atStart => exact ⟨1, by omega, h1, rfl, unhide HC⟩
  case round =>
    obtain ⟨n, hn1, hn, rfl, hr⟩ := hrel
    by_cases hlt : n < c
    · have hlt' : (n : Int) < (c : Int) := by omega
      obtain ⟨m, hm⟩ : ∃ m, m = min n (c - n) := ⟨_, rfl⟩
      have hle : n + m ≤ c := by omega
      have hsrc : ∀ j v, (List.replicate m (S x))[j]? = some v → wr.cell? ((⟨w0.heap.size, 0, none⟩ : Addr).add j) = some v := by
        intro j v hj
        obtain ⟨hj1, rfl⟩ := List.getElem?_eq_some_iff.1 hj
        rw [add_at, cell_of_row _ _ j _ 9 (0, 0) hr.row]
        simp only [List.length_replicate] at hj1
        simp [rep_at x c n j (by omega)]
      have hrun := run_copyk wr.drew 28 9 3 _ 1 16 Try.underlying28 info9 w0.heap.size n (c - n) (c - n) ⟨w0.heap.size, 0, none⟩ n c _ (List.replicate m (S x)) m hm hr.row (by simp) hsrc (by rw [List.size_toArray, rep_len _ _ _ hn]; simpa using hle) (by intro v hv; obtain ⟨_, rfl⟩ := List.mem_replicate.1 hv; rfl)
      have hm1 : 1 ≤ m := by omega
      have hro := Rep.next hr hle
      generalize wr.drew.setRow w0.heap.size _ = w3 at hrun hro
      have HR := hide hro
      clear hro hm hsrc hr
      go_wp2
      go_region
      go_wp2
      go_round
      case measure => simp [Go.RowKit.intOf]; omega
      case rel => exact ⟨n + m, by omega, by omega, by simp, unhide HR⟩
    · have hlt' : ¬ (n : Int) < (c : Int) := by omega
      obtain rfl : n = c := by omega
      have HR := hide hr
      clear hr
      go_wp2
      go_ret
      exact ⟨rfl, Rep.whole (unhide HR) (by omega), (unhide HR).bel⟩
/-- slices.IndexFunc of texts, with wrongSize: is there one of a wrong size? -/
def allR (l : List Bs) : Bool := l.all (fun x => x.length == 512)
theorem allR_next (l : List Bs) (k : Nat) (hk : k < l.length) : allR (l.take (k + 1)) = (allR (l.take k) && ((l.getD k []).length == 512)) := by
  unfold allR
  rw [List.take_succ_eq_append_getElem hk, List.all_append]
  simp [hk]
theorem allR_bad (l : List Bs) (k : Nat) (hk : k < l.length) (h : (l.getD k []).length ≠ 512) : allR l = false := by
  unfold allR
  rw [Bool.eq_false_iff]
  intro q
  rw [List.all_eq_true] at q
  have := q (l.getD k []) (by rw [List.getD_eq_getElem?_getD, List.getElem?_eq_getElem hk]; exact List.getElem_mem hk)
  exact h (by simpa using this)
theorem indexFunc_any (a : Option Addr) (n cap : Nat) (l : List Bs) (w : World) (hp : Sts w a n l) (hn : n ≤ 1000000000000) :
    Calls Try.prog 66 #[.slice a n cap, .func (.func 47) #[] #[]] w fun e w' => ∃ i : Int, e = .returned (I i) ∧ (0 ≤ i ↔ allR l = false) ∧ w' = w := by
  have hN := hp.1
  subst hN
  have HP := hide hp
  clear hp
  go_enter Try.func66, Try.ntmps66
  go_wp2
  go_loopw [8] (fun i wr => ∃ k : Nat, k ≤ l.length ∧ i = .int .i64 k ∧ allR (l.take k) = true ∧ wr = w) (fun i _ => l.length - (Go.RowKit.intOf i).toNat)
  case atStart => exact ⟨0, by omega, rfl, rfl, rfl⟩
  case round =>
    obtain ⟨k, hk, rfl, ha, rfl⟩ := hrel
    by_cases hlt : k < l.length
    · obtain ⟨p, o, rfl, hpl, hc0⟩ := (unhide HP).at hlt
      have hlt' : (k : Int) < (l.length : Int) := by omega
      have HN := hide (allR_next l k hlt)
      have HW := hide (allR_bad l k hlt)
      generalize l.getD k [] = x at *
      have H1 := hide (fun W => wrongSize_any x W)
      have HA := hide ha
      clear ha
      by_cases hx : x.length = 512
      · have hb : decide (x.length ≠ 512) = false := by simp [hx]
        rw [hb] at H1
        have HA2 := hide (show allR (l.take (k + 1)) = true by rw [unhide HN, unhide HA]; simp [hx])
        go_wp2_with fail
        refine (unhide H1 _).mono ?_
        rintro e w2 ⟨rfl, rfl⟩
        go_wp2
        go_round
        case measure => simp [Go.RowKit.intOf]; omega
        case rel => exact ⟨k + 1, by omega, by simp, unhide HA2, by first | trivial | rfl⟩
      · have hb : decide (x.length ≠ 512) = true := by simp [hx]
        rw [hb] at H1
        go_wp2_with fail
        refine (unhide H1 _).mono ?_
        rintro e w2 ⟨rfl, rfl⟩
        go_wp2
        go_ret
        exact ⟨k, rfl, ⟨fun _ => unhide HW hx, fun _ => by omega⟩, rfl⟩
    · have hlt' : ¬ (k : Int) < (l.length : Int) := by omega
      have HA := hide ha
      clear ha
      go_wp2
      go_ret
      refine ⟨-1, rfl, ⟨fun h => by omega, fun h => ?_⟩, rfl⟩
      have := unhide HA
      rw [List.take_of_length_le (by omega), h] at this
      cases this
theorem containsFunc_any (a : Option Addr) (n cap : Nat) (l : List Bs) (w : World) (hp : Sts w a n l) (hn : n ≤ 1000000000000) :
    Calls Try.prog 46 #[.slice a n cap, .func (.func 47) #[] #[]] w fun e w' => e = .returned (.bool (!allR l)) ∧ w' = w := by
  have H := hide (indexFunc_any a n cap l w hp hn)
  clear hp
  go_enter Try.func46, Try.ntmps46
  go_wp2_with fail
  refine (unhide H).mono ?_
  rintro e w1 ⟨i, rfl, hi, rfl⟩
  by_cases h0 : 0 ≤ i
  · have HI := hide (hi.1 h0)
    clear hi
    go_wp2
    go_ret
    exact ⟨ret_bool (by rw [unhide HI]; first | rfl | simpa using h0), rfl⟩
  · have HI := hide (show allR l = true by
      cases q : allR l
      · exact absurd (hi.2 q) h0
      · rfl)
    clear hi
    go_wp2
    go_ret
    exact ⟨ret_bool (by rw [unhide HI]; first | rfl | simpa using h0), rfl⟩
end Go.Proofs.Ytpelmacblglhoaa
