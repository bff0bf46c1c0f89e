import Derived.Test.YtjopnhhdemfniaaGreatDoorZdsa
import Derived.Test.YtjopnhhdemfniaaGreatDoorDsh
import Derived.OwnWalk
import Derived.Shelf.Bits.Mul64
import Derived.RegionTactic
import Derived.BigRegion
namespace Go.Proofs.YtjopnhhdemfniaaGreatDoor
open Go.RowKit
set_option maxHeartbeats 4000000
set_option maxRecDepth 8000
theorem clone_any (s : Bs) (w : World) (hs : s.length ≤ 281474976710656) : Calls Tryz.prog 130 #[S s] w fun e w' => e = .returned (S s) ∧ Below w.heap.size w w' := by
  have H := hide (Tryz.stringslite_Clone ⟨s.toArray⟩ w (by simpa [ByteArray.size] using hs))
  go_enter Tryz.func130, Tryz.ntmps130
  go_wp2_with fail
  refine (unhide H).mono ?_
  rintro e w1 ⟨rfl, b1⟩
  have HB := hide b1
  clear b1
  go_wp2
  go_ret
  exact ⟨rfl, unhide HB⟩
/-- Texts in memory. -/
def Sts (w : World) (a : Option Addr) (n : Nat) (l : List Bs) : Prop :=
  n = l.length ∧ (0 < n → ∃ p o, a = some ⟨p, o, none⟩ ∧ ∀ j, j < n → w.cell? ⟨p, o + j, none⟩ = some (S (l.getD j [])))
theorem blk_lt {w : World} {p o : Nat} {v : Value} (h : w.cell? ⟨p, o, none⟩ = some v) : p < w.heap.size := block_lt_of_cell h
theorem Sts.at {w : World} {a : Option Addr} {n : Nat} {l : List Bs} (h : Sts w a n l) {j : Nat} (hj : j < n) : ∃ p o, a = some ⟨p, o, none⟩ ∧ p < w.heap.size ∧ w.cell? ⟨p, o + j, none⟩ = some (S (l.getD j [])) := by
  obtain ⟨p, o, e, hc⟩ := h.2 (by omega)
  exact ⟨p, o, e, blk_lt (hc j hj), hc j hj⟩
theorem Sts.below {w w' : World} {a : Option Addr} {n : Nat} {l : List Bs} (h : Sts w a n l) (hb : Below w.heap.size w w') : Sts w' a n l := by
  refine ⟨h.1, fun hn => ?_⟩
  obtain ⟨p, o, e, hc⟩ := h.2 hn
  exact ⟨p, o, e, fun j hj => (hb.cell (by exact blk_lt (hc j hj))).trans (hc j hj)⟩
theorem Sts.of {w : World} {v : Value} {l : List Bs} (h : w.ownsRow 0 9 1 v l.length (l.map S)) : ∃ p cap, v = .slice p l.length cap ∧ Sts w p l.length l ∧ (∀ g o, p = some ⟨g, o, none⟩ → v.ownBlock = some g) := by
  rcases h.2 with ⟨e, q⟩ | ⟨g, cap, cur, e1, e2⟩
  · exact ⟨none, 0, by rw [e, q], ⟨rfl, fun h => by omega⟩, fun g o e => by cases e⟩
  · refine ⟨_, cap, e1, ⟨rfl, fun _ => ⟨g, 0, rfl, fun j hj => ?_⟩⟩, fun g' o e => ?_⟩
    · subst e1
      rw [Nat.zero_add]
      exact owns_cell h j _ (by simp [hj])
    · cases e
      rw [e1]
      rfl
theorem made9 (m : Nat) : (madeCells #[Value.string ⟨#[]⟩] m).toList = List.replicate m (S []) := by
  unfold madeCells
  apply List.ext_getElem
  · simp
  · intro i h1 h2
    simp [Nat.mod_one]
end Go.Proofs.YtjopnhhdemfniaaGreatDoor
namespace Go.Proofs.YtjopnhhdemfniaaGreatDoor
open Go.RowKit
set_option maxHeartbeats 4000000
set_option maxRecDepth 8000
theorem Tryz.bits_Mul (x y : Nat) (hx : x < 18446744073709551616) (hy : y < 18446744073709551616) (w : World) :
    Calls Tryz.prog 176 #[.int .u64 x, .int .u64 y] w fun e w' => e = .returned (.tuple #[.int .u64 ((x * y / 18446744073709551616 : Nat) : Int), .int .u64 ((x * y % 18446744073709551616 : Nat) : Int)]) ∧ w' = w := Any.bits_Mul { Tryz.lays105 with } x y hx hy w
/-- What copy does: things of sz cells each. -/
theorem run_copyk (w : World) (T e ty : TypeId) (z : Value) (sz bys : Nat) (ht : Tryz.prog.underlying T = some (.slice e)) (hinfo : (Tryz.prog.info? e).map (fun i => (i.zero, i.size, i.bytes)) = some (some z, sz, bys))
    (g off dn dcap : Nat) (ad : Addr) (sn scap : Nat) (cur : Array Value) (cs : List Value) (m : Nat) (hm : m = Nat.min sn dn) (hg : w.heap[g]? = some (.cells cur e (0, 0))) (hn : cs.length = m * sz)
    (hsrc : ∀ j v, cs[j]? = some v → w.cell? (ad.add j) = some v) (hfit : off + cs.length ≤ cur.size) (h1 : ∀ v ∈ cs, v.oneCell' = true) :
    (Builtin.copy_ #[T, T] ty #[.slice (some ⟨g, off, none⟩) dn dcap, .slice (some ad) sn scap]).run Tryz.prog w =
      .ok (goInt m) (w.setRow g (cur.toList.take off ++ cs ++ cur.toList.drop (off + cs.length)).toArray) := by
  have hl := run_loadCells_list (P := Tryz.prog) w ad cs hsrc
  have hst := run_storeCells_at Tryz.prog g off e cs 0 cur w hg (by simpa using hfit) h1
  obtain ⟨i0, hi, hz0, hz1, hz2⟩ := info_parts hinfo
  rw [hn] at hl
  simp only [Nat.add_zero] at hst
  simp [Builtin.copy_, run_underlying ht, Builtin.lenOf, Builtin.firstCells, sizeOf, typeInfo, hi, hz1, ← hm, hl, hst]
theorem wp_copyk {ops : Array Oper} {rest : List Oper} {o : Oper} {a : Act} {w : World} {Q : Exit → Act → World → Prop} (T e : TypeId) (z : Value) (sz bys : Nat) (ht : Tryz.prog.underlying T = some (.slice e)) (hinfo : (Tryz.prog.info? e).map (fun i => (i.zero, i.size, i.bytes)) = some (some z, sz, bys)) (hgd : o.guard = none) (d s : Operand)
    (ho : o.op = .call { callee := .builtin .copy, args := #[d, s], argTypes := #[T, T] }) (g off dn dcap : Nat) (ad : Addr) (sn scap : Nat) (hd : a.eval d = .slice (some ⟨g, off, none⟩) dn dcap) (hs : a.eval s = .slice (some ad) sn scap)
    (cur : Array Value) (cs : List Value) (m : Nat) (hm : m = Nat.min sn dn) (hg : w.heap[g]? = some (.cells cur e (0, 0))) (hn : cs.length = m * sz)
    (hsrc : ∀ j v, cs[j]? = some v → w.cell? (ad.add j) = some v) (hfit : off + cs.length ≤ cur.size) (h1 : ∀ v ∈ cs, v.oneCell' = true)
    (h : ∀ w', w' = w.setRow g (cur.toList.take off ++ cs ++ cur.toList.drop (off + cs.length)).toArray → wpList Tryz.prog ops Q rest (a.put o.dst (goInt m)) w') : wpList Tryz.prog ops Q (o :: rest) a w := by
  have hr := run_copyk w T e o.type z sz bys ht hinfo g off dn dcap ad sn scap cur cs m hm hg hn hsrc hfit h1
  refine wpList_plain hgd fun K hK => ?_
  unfold Oper.wp
  simp only [execOp, ho, resolve, invoke, builtin, Sem.run_bind, Sem.run_pure, Result.andThen_ok, List.map_toArray, List.map_cons, List.map_nil, hd, hs, hr]
  exact hK _ _ (h _ rfl)
theorem setRow_only (w : World) (g : Nat) (cs : Array Value) : Only (fun k => k = g) w (w.setRow g cs) := ⟨rfl, rfl, rfl, by simp [World.setRow], fun k _ hk => setRow_other w g k _ hk⟩
/-- n times the same text, and then noughts. -/
def rep (x : Bs) (L n : Nat) : List Value := List.replicate n (S x) ++ List.replicate (L - n) (S [])
theorem rep_len (x : Bs) (L n : Nat) (h : n ≤ L) : (rep x L n).length = L := by simp [rep]; omega
theorem rep_next (x : Bs) (L n m : Nat) : (rep x L n).take n ++ List.replicate m (S x) ++ (rep x L n).drop (n + m) = rep x L (n + m) := by
  unfold rep
  have e1 : (List.replicate n (S x) ++ List.replicate (L - n) (S [])).take n = List.replicate n (S x) := by
    rw [List.take_append_of_le_length (by simp)]
    simp
  have e2 : (List.replicate n (S x) ++ List.replicate (L - n) (S [])).drop (n + m) = List.replicate (L - (n + m)) (S []) := by
    rw [List.drop_append, List.drop_of_length_le (by simp)]
    simp
    omega
  rw [e1, e2, List.replicate_append_replicate]
theorem rep_at (x : Bs) (L n j : Nat) (h : j < n) : (rep x L n)[j]? = some (S x) := by
  unfold rep
  rw [List.getElem?_append_left (by simpa using h), List.getElem?_replicate, if_pos h]
/-- The block of which n are laid. -/
structure Rep (g : Nat) (x : Bs) (L n : Nat) (w0 w : World) : Prop where
  row : w.heap[g]? = some (.cells (rep x L n).toArray 9 (0, 0))
  bel : Below w0.heap.size w0 w
theorem rep_start {w : World} {g c : Nat} (h : w.ownsRow 0 9 1 (.slice (some ⟨g, 0, none⟩) c c) c (madeCells (Value.string ⟨#[]⟩).cells (c * 1)).toList) : w.heap[g]? = some (.cells (List.replicate c (S [])).toArray 9 (0, 0)) := by
  rcases h.2 with ⟨q, _⟩ | ⟨g', cap', cur, e1, e0, e2, e3, e4, e5, e6⟩
  · cases q
  · cases e1
    rw [show (Value.string ⟨#[]⟩).cells = #[Value.string ⟨#[]⟩] from rfl, made9, Nat.mul_one, List.take_of_length_le (by simp; omega)] at e6
    rw [e2, ← e6]
theorem Rep.first {w0 w : World} {g c : Nat} {x : Bs} (h : w.heap[g]? = some (.cells (List.replicate c (S [])).toArray 9 (0, 0))) (hb : Below w0.heap.size w0 w) (hg : g = w0.heap.size) : Rep g x c 1 w0 (w.setRow g (((List.replicate c (S [])).toArray.toList.take 0 ++ [S x] ++ (List.replicate c (S [])).toArray.toList.drop (0 + [S x].length)).toArray)) := by
  refine ⟨?_, (setRow_only w g _).below hb hb.size (fun k e => by subst e; omega)⟩
  rw [setRow_heap w g _ _ 9 _ h]
  congr 3
  simp [rep]
theorem Rep.next {c n m : Nat} {x : Bs} {w0 wr : World} (h : Rep w0.heap.size x c n w0 wr) (_ : n + m ≤ c) : Rep w0.heap.size x c (n + m) w0 (wr.drew.setRow w0.heap.size ((rep x c n).toArray.toList.take n ++ List.replicate m (S x) ++ (rep x c n).toArray.toList.drop (n + (List.replicate m (S x)).length)).toArray) := by
  have hd : Below w0.heap.size w0 wr.drew := h.bel.trans ⟨rfl, rfl, rfl, Nat.le_refl _, fun _ _ => rfl⟩
  refine ⟨?_, (setRow_only wr.drew w0.heap.size _).below hd hd.size (fun k e => by subst e; omega)⟩
  rw [setRow_heap wr.drew w0.heap.size _ _ 9 _ h.row, List.length_replicate]
  congr 3
  exact rep_next x c n m
theorem Rep.whole {g c : Nat} {x : Bs} {w0 w : World} (h : Rep g x c c w0 w) (hc : c ≤ 1000000) : w.ownsRow 0 9 1 (.slice (some ⟨g, 0, none⟩) c c) c (List.replicate c (S x)) := by
  have := owns_full (n := 1) (m := c) h.row (by simp [rep]) (by unfold maxLen; omega)
  simpa [rep] using this
theorem repeat_any (g cap : Nat) (x : Bs) (c : Nat) (w : World) (hx : w.cell? ⟨g, 0, none⟩ = some (S x)) (h1 : 1 ≤ c) (hc : c ≤ 1000000) :
    Calls Tryz.prog 100 #[.slice (some ⟨g, 0, none⟩) 1 cap, I c] w fun e w' => e = .returned (.slice (some ⟨w.heap.size, 0, none⟩) c c) ∧ w'.ownsRow 0 9 1 (.slice (some ⟨w.heap.size, 0, none⟩) c c) c (List.replicate c (S x)) ∧ Below w.heap.size w w' := by
  have hM := Tryz.bits_Mul 1 c (by omega) (by omega) w
  rw [show 1 * c / 18446744073709551616 = 0 by omega, show 1 * c % 18446744073709551616 = c by omega] at hM
  have HM := hide hM
  have hgl := blk_lt hx
  clear hM
  go_enter Tryz.func100, Tryz.ntmps100
  go_wp2_with fail
  refine (unhide HM).mono ?_
  rintro e w0 ⟨rfl, rfl⟩
  go_wp2_with (first | (refine make_own 64 9 _ 1 16 Tryz.underlying64 info9 rfl (.tmp 29) (.tmp 29) rfl _ _ c rfl rfl rfl rfl (by omega) (by omega) ?_; intro w1 ho1 b1 l1; have HO1 := hide ho1; have HB1 := hide b1; clear ho1 b1) | (refine wp_copyk 64 9 _ 1 16 Tryz.underlying64 info9 rfl (.tmp 31) (.tmp 32) rfl w0.heap.size 0 c c ⟨g, 0, none⟩ 1 cap rfl rfl _ [S x] 1 (by show 1 = min 1 c; omega) (rep_start (unhide HO1)) rfl (by intro j v hj; match j, hj with | 0, hj => (simp at hj; subst hj; rw [add_at]; exact ((unhide HB1).cell hgl).trans hx) | (j + 1), hj => simp at hj) (by simp; omega) (by intro v hv; simp at hv; subst hv; rfl) ?_; intro w2 e2; have HC := hide (Rep.first (rep_start (unhide HO1)) (unhide HB1) (x := x) rfl); rw [← e2] at HC; clear HO1 HB1 e2) | fail)
  go_loopw [8] (fun i wr => ∃ n : Nat, 1 ≤ n ∧ n ≤ c ∧ i = .int .i64 n ∧ Rep w0.heap.size x c n w0 wr) (fun i _ => c - (Go.RowKit.intOf i).toNat)
  case atStart => exact ⟨1, by omega, h1, rfl, unhide HC⟩
  case round =>
    obtain ⟨n, hn1, hn, rfl, hr⟩ := hrel
    by_cases hlt : n < c
    · have hlt' : (n : Int) < (c : Int) := by omega
      obtain ⟨m, hm⟩ : ∃ m, m = min n (c - n) := ⟨_, rfl⟩
      have hle : n + m ≤ c := by omega
      have hsrc : ∀ j v, (List.replicate m (S x))[j]? = some v → wr.cell? ((⟨w0.heap.size, 0, none⟩ : Addr).add j) = some v := by
        intro j v hj
        obtain ⟨hj1, rfl⟩ := List.getElem?_eq_some_iff.1 hj
        rw [add_at, cell_of_row _ _ j _ 9 (0, 0) hr.row]
        simp only [List.length_replicate] at hj1
        simp [rep_at x c n j (by omega)]
      have hrun := run_copyk wr.drew 64 9 3 _ 1 16 Tryz.underlying64 info9 w0.heap.size n (c - n) (c - n) ⟨w0.heap.size, 0, none⟩ n c _ (List.replicate m (S x)) m hm hr.row (by simp) hsrc (by rw [List.size_toArray, rep_len _ _ _ hn]; simpa using hle) (by intro v hv; obtain ⟨_, rfl⟩ := List.mem_replicate.1 hv; rfl)
      have hm1 : 1 ≤ m := by omega
      have hro := Rep.next hr hle
      generalize wr.drew.setRow w0.heap.size _ = w3 at hrun hro
      have HR := hide hro
      clear hro hm hsrc hr
      go_wp2
      go_region
      go_wp2
      go_round
      case measure => simp [Go.RowKit.intOf]; omega
      case rel => exact ⟨n + m, by omega, by omega, by simp, unhide HR⟩
    · have hlt' : ¬ (n : Int) < (c : Int) := by omega
      obtain rfl : n = c := by omega
      have HR := hide hr
      clear hr
      go_wp2
      go_ret
      exact ⟨rfl, Rep.whole (unhide HR) (by omega), (unhide HR).bel⟩
end Go.Proofs.YtjopnhhdemfniaaGreatDoor
namespace Go.Proofs.YtjopnhhdemfniaaGreatDoor
open Go.RowKit
set_option maxHeartbeats 4000000
set_option maxRecDepth 8000
def zs : Bs := List.replicate 512 0
/-- A new disk on which these last. -/
def Ds.new (l : List Bs) : Ds := { ws := [], last := l, fuse := 0, dead := false, acts := 0 }
theorem new_at {w : World} {V : Value} {l : List Bs} (h : w.ownsRow 0 9 1 V l.length (l.map S)) : DAt w.heap.size (Ds.new l) (.slice none 0 0) V (w.alloc (.cells #[.slice none 0 0, V, I 0, .bool false, I 0] 153)) :=
  ⟨heap_alloc_new _ _, owns_nil _ _ _, owns_alloc h _⟩
theorem zs_eq : (⟨(Lib.repeatL [0] 512).toArray⟩ : ByteArray) = ⟨zs.toArray⟩ := by
  congr 2
theorem new_any (n : Int) (w : World) (hn : -9223372036854775808 ≤ n ∧ n ≤ 9223372036854775807) :
    Calls Tryz.prog 33 #[I n] w fun e w' => (mayv n = false ∧ e = .returned (.tuple #[.pointer none, I 1]) ∧ w' = w) ∨
      (mayv n = true ∧ ∃ D V, e = .returned (.tuple #[ptr D, I 0]) ∧ DAt D (Ds.new (List.replicate n.toNat zs)) (.slice none 0 0) V w' ∧ (∀ k, Of D (.slice none 0 0) V k → w.heap.size ≤ k) ∧ Below w.heap.size w w') := by
  have H1 := hide (fun W => mayHave_any n W)
  by_cases hm : mayv n = true
  · obtain ⟨h8, h9⟩ : 8 ≤ n ∧ n ≤ 4096 := by simpa [mayv] using hm
    rw [hm] at H1
    obtain ⟨c, rfl⟩ : ∃ c : Nat, n = (c : Int) := ⟨n.toNat, by omega⟩
    have h2 := Tryz.strings_Repeat ⟨#[0]⟩ 512 w (by omega) (by decide)
    rw [show (⟨#[0]⟩ : ByteArray).data.toList = [0] from rfl, zs_eq] at h2
    have H2 := hide h2
    clear h2
    have HM := hide hm
    clear hm
    generalize zs = z at *
    go_enter Tryz.func33, Tryz.ntmps33
    go_wp2_with fail
    refine (unhide H1 _).mono ?_
    rintro e w0 ⟨rfl, rfl⟩
    go_wp2_with fail
    refine (unhide H2).mono ?_
    rintro e w1 ⟨rfl, b1⟩
    have HB1 := hide b1
    have s1 := b1.size
    clear b1
    have H3 := hide (repeat_any w1.heap.size 1 z c (w1.alloc (.cells #[S z] 9)) (by rw [cell_of_row _ _ 0 _ 9 (0, 0) (heap_alloc_new _ _)]; rfl) (by omega) (by omega))
    go_wp2_with fail
    refine (unhide H3).mono ?_
    rintro e w2 ⟨rfl, o2, b2⟩
    have HB2 := hide ((unhide HB1).trans ((((Below.refl _ w1).alloc (Nat.le_refl _) (.cells #[S z] 9)).trans (b2.mono (by simp))).mono s1))
    have HO2 := hide (new_at (l := List.replicate c z) (by simpa using o2))
    have s2 := (unhide HB2).size
    clear o2 b2
    go_wp2
    go_ret2
    refine .inr ⟨unhide HM, w2.heap.size, _, rfl, by simpa using unhide HO2, ?_, (unhide HB2).alloc s2 _⟩
    rintro k (rfl | hk | hk)
    · exact s2
    · cases hk
    · cases hk
      simp
      omega
  · have hm2 : mayv n = false := by simpa using hm
    rw [hm2] at H1
    go_enter Tryz.func33, Tryz.ntmps33
    go_wp2_with fail
    refine (unhide H1 _).mono ?_
    rintro e w0 ⟨rfl, rfl⟩
    go_wp2
    go_ret2
    exact .inl ⟨hm2, rfl, rfl⟩
end Go.Proofs.YtjopnhhdemfniaaGreatDoor
namespace Go.Proofs.YtjopnhhdemfniaaGreatDoor
open Go.RowKit
set_option maxHeartbeats 4000000
set_option maxRecDepth 8000
def cmpv (a b : Int) : Int := if a < b then -1 else if b < a then 1 else 0
theorem isNaN_any (n : Int) (w : World) : Calls Tryz.prog 242 #[I n] w fun e w' => e = .returned (.bool false) ∧ w' = w := by
  go_enter Tryz.func242, Tryz.ntmps242
  go_wp2
  go_ret
  exact ⟨ret_bool (by simp), rfl⟩
theorem compare_any (a b : Int) (w : World) : Calls Tryz.prog 232 #[I a, I b] w fun e w' => e = .returned (I (cmpv a b)) ∧ w' = w := by
  have H1 := hide (fun W => isNaN_any a W)
  have H2 := hide (fun W => isNaN_any b W)
  unfold cmpv
  by_cases h1 : a < b
  · rw [if_pos h1]
    go_enter Tryz.func232, Tryz.ntmps232
    go_wp2_with fail
    refine (unhide H1 _).mono ?_
    rintro e w0 ⟨rfl, rfl⟩
    go_wp2_with fail
    refine (unhide H2 _).mono ?_
    rintro e w0 ⟨rfl, rfl⟩
    go_wp2
    go_ret
    exact ⟨rfl, rfl⟩
  · rw [if_neg h1]
    by_cases h2 : b < a
    · rw [if_pos h2]
      go_enter Tryz.func232, Tryz.ntmps232
      go_wp2_with fail
      refine (unhide H1 _).mono ?_
      rintro e w0 ⟨rfl, rfl⟩
      go_wp2_with fail
      refine (unhide H2 _).mono ?_
      rintro e w0 ⟨rfl, rfl⟩
      go_wp2
      go_ret
      exact ⟨rfl, rfl⟩
    · rw [if_neg h2]
      go_enter Tryz.func232, Tryz.ntmps232
      go_wp2_with fail
      refine (unhide H1 _).mono ?_
      rintro e w0 ⟨rfl, rfl⟩
      go_wp2_with fail
      refine (unhide H2 _).mono ?_
      rintro e w0 ⟨rfl, rfl⟩
      go_wp2
      go_ret
      exact ⟨rfl, rfl⟩
theorem cmp_any (x : Wr) (b : Int) (w : World) : Calls Tryz.prog 231 #[.agg #[I x.1, S x.2], I b] w fun e w' => e = .returned (I (cmpv x.1 b)) ∧ Below w.heap.size w w' := by
  have H1 := hide (fun W => compare_any x.1 b W)
  have hc : (w.alloc (.cells #[I x.1, S x.2] 164)).cell? ⟨w.heap.size, 0, none⟩ = some (I x.1) := by rw [cell_of_row _ _ 0 _ 164 (0, 0) (heap_alloc_new _ _)]; rfl
  generalize cmpv x.1 b = r at *
  obtain ⟨x1, x2⟩ := x
  simp only at H1 hc
  go_enter Tryz.func231, Tryz.ntmps231
  go_wp2_with fail
  refine (unhide H1 _).mono ?_
  rintro e w0 ⟨rfl, rfl⟩
  go_wp2
  go_ret
  exact ⟨rfl, (Below.refl _ _).alloc (Nat.le_refl _) _⟩
/-- Writes in memory. -/
def Wls (w : World) (a : Option Addr) (n : Nat) (l : List Wr) : Prop :=
  n = l.length ∧ (0 < n → ∃ p o, a = some ⟨p, o, none⟩ ∧ ∀ j, j < n → w.cell? ⟨p, o + j * 2, none⟩ = some (I (l.getD j (0, [])).1) ∧ w.cell? ⟨p, o + j * 2 + 1, none⟩ = some (S (l.getD j (0, [])).2))
theorem Wls.at {w : World} {a : Option Addr} {n : Nat} {l : List Wr} (h : Wls w a n l) {j : Nat} (hj : j < n) : ∃ p o, a = some ⟨p, o, none⟩ ∧ p < w.heap.size ∧ w.cell? ⟨p, o + j * 2, none⟩ = some (I (l.getD j (0, [])).1) ∧ w.cell? ⟨p, o + j * 2 + 1, none⟩ = some (S (l.getD j (0, [])).2) := by
  obtain ⟨p, o, e, hc⟩ := h.2 (by omega)
  exact ⟨p, o, e, blk_lt (hc j hj).1, (hc j hj).1, (hc j hj).2⟩
theorem Wls.below {w w' : World} {a : Option Addr} {n : Nat} {l : List Wr} (h : Wls w a n l) (hb : Below w.heap.size w w') : Wls w' a n l := by
  refine ⟨h.1, fun hn => ?_⟩
  obtain ⟨p, o, e, hc⟩ := h.2 hn
  exact ⟨p, o, e, fun j hj => ⟨(hb.cell (by exact blk_lt (hc j hj).1)).trans (hc j hj).1, (hb.cell (by exact blk_lt (hc j hj).2)).trans (hc j hj).2⟩⟩
theorem Wls.of {w : World} {v : Value} {l : List Wr} (h : w.ownsRow 0 164 2 v l.length (cellsW l)) : ∃ p cap, v = .slice p l.length cap ∧ Wls w p l.length l := by
  rcases h.2 with ⟨e, q⟩ | ⟨g, cap, cur, e1, e2⟩
  · exact ⟨none, 0, by rw [e, q], ⟨rfl, fun h => by omega⟩⟩
  · refine ⟨_, cap, e1, ⟨rfl, fun _ => ⟨g, 0, rfl, fun j hj => ?_⟩⟩⟩
    subst e1
    rw [Nat.zero_add]
    obtain ⟨h1, h2⟩ := cellsW_at l j hj
    exact ⟨owns_cell h _ _ h1, owns_cell h _ _ h2⟩
/-- They stand by rising blocks. -/
def Srt (l : List Wr) : Prop := ∀ i j, i < j → j < l.length → (l.getD i (0, [])).1 < (l.getD j (0, [])).1
/-- The place of a block: all ahead of it are below, the others are not. -/
def Plc (l : List Wr) (b i : Nat) : Prop := i ≤ l.length ∧ (∀ t, t < i → (l.getD t (0, [])).1 < b) ∧ (∀ t, i ≤ t → t < l.length → b ≤ (l.getD t (0, [])).1)
def hit (l : List Wr) (b i : Nat) : Bool := decide (i < l.length) && decide ((l.getD i (0, [])).1 = b)
theorem cmpv_neg (a b : Nat) : (cmpv a b < 0) ↔ a < b := by
  unfold cmpv
  split
  · omega
  · split <;> omega
theorem cmpv_zero (a b : Nat) : (cmpv a b = 0) ↔ a = b := by
  unfold cmpv
  split
  · omega
  · split <;> omega
theorem search_any (a : Option Addr) (n cap : Nat) (l : List Wr) (b : Nat) (w : World) (hp : Wls w a n l) (hs : Srt l) (hn : n ≤ 1000000000000) :
    Calls Tryz.prog 230 #[.slice a n cap, I b, .func (.func 231) #[] #[]] w fun e w' => ∃ i, Plc l b i ∧ e = .returned (.tuple #[I i, .bool (hit l b i)]) ∧ Below w.heap.size w w' := by
  have hN := hp.1
  subst hN
  have HP := hide hp
  have HS := hide hs
  clear hp hs
  go_enter Tryz.func230, Tryz.ntmps230
  go_wp2
  go_loopw [9, 10] (fun s9 s10 wr => ∃ lo hi : Nat, s9 = .int .i64 lo ∧ s10 = .int .i64 hi ∧ lo ≤ hi ∧ hi ≤ l.length ∧ (∀ t, t < lo → (l.getD t (0, [])).1 < b) ∧ (∀ t, hi ≤ t → t < l.length → b ≤ (l.getD t (0, [])).1) ∧ Below w.heap.size w wr) (fun x y _ => (Go.RowKit.intOf y).toNat - (Go.RowKit.intOf x).toNat)
  case atStart => exact ⟨0, l.length, rfl, rfl, Nat.zero_le _, Nat.le_refl _, fun t h => by omega, fun t h1 h2 => by omega, Below.refl _ _⟩
  case round =>
    obtain ⟨lo, hi, rfl, rfl, h1, h2, ha, hb, hbel⟩ := hrel
    have HA := hide ha
    have HB := hide hb
    have HW := hide hbel
    clear ha hb
    by_cases hlt : lo < hi
    · have hlt' : (lo : Int) < (hi : Int) := by omega
      obtain ⟨p, o, rfl, hpl, hc0, hc1⟩ := ((unhide HP).below hbel).at (j := (lo + hi) / 2) (by omega)
      obtain ⟨x, hx⟩ : ∃ x, x = l.getD ((lo + hi) / 2) (0, []) := ⟨_, rfl⟩
      rw [← hx] at hc0 hc1
      have HX := hide hx
      clear hx hbel
      have H1 := hide (cmp_any x b wr)
      have hcn := cmpv_neg x.1 b
      obtain ⟨x1, x2⟩ := x
      simp only at hc0 hc1 H1 hcn
      generalize hr : cmpv (x1 : Int) (b : Int) = r at *
      clear hr
      go_wp2_with fail
      refine (unhide H1).mono ?_
      rintro e w2 ⟨rfl, b2⟩
      have HW2 := hide ((unhide HW).trans (b2.mono (unhide HW).size))
      clear b2 H1 HW
      by_cases hr0 : r < 0
      · go_wp2
        go_round
        case measure => simp [Go.RowKit.intOf]; omega
        case rel =>
          refine ⟨(lo + hi) / 2 + 1, hi, by rw [show ((lo : Int) + (hi : Int)) / 2 + 1 = (((lo + hi) / 2 + 1 : Nat) : Int) by omega], rfl, by omega, h2, fun t ht => ?_, unhide HB, unhide HW2⟩
          have hx := congrArg Prod.fst (unhide HX)
          have hx1 := hcn.1 hr0
          simp only at hx
          rcases Nat.lt_or_eq_of_le (Nat.lt_succ_iff.1 ht) with q | q
          · have := unhide HS t ((lo + hi) / 2) q (by omega)
            omega
          · rw [q, ← hx]; exact hx1
      · go_wp2
        go_round
        case measure => simp [Go.RowKit.intOf]; omega
        case rel =>
          refine ⟨lo, (lo + hi) / 2, rfl, by rw [show ((lo : Int) + (hi : Int)) / 2 = (((lo + hi) / 2 : Nat) : Int) by omega], by omega, by omega, unhide HA, fun t ht htn => ?_, unhide HW2⟩
          have hx := congrArg Prod.fst (unhide HX)
          have hx1 : ¬ x1 < b := fun q => by have := hcn.2 q; omega
          simp only at hx
          rcases Nat.lt_or_eq_of_le ht with q | q
          · have := unhide HS ((lo + hi) / 2) t q htn
            omega
          · rw [← q, ← hx]; omega
    · obtain rfl : lo = hi := by omega
      have hlt' : ¬ (lo : Int) < (lo : Int) := by omega
      have HPl := hide (show Plc l b lo from ⟨h2, unhide HA, unhide HB⟩)
      clear HA HB
      by_cases hn2 : lo < l.length
      · have hn' : (lo : Int) < (l.length : Int) := by omega
        obtain ⟨p, o, rfl, hpl, hc0, hc1⟩ := ((unhide HP).below hbel).at (j := lo) hn2
        have HH := hide (show hit l b lo = decide ((l.getD lo (0, [])).1 = b) by simp [hit, hn2])
        generalize l.getD lo (0, []) = x at *
        clear hbel
        have H1 := hide (cmp_any x b wr)
        have hcn := cmpv_zero x.1 b
        obtain ⟨x1, x2⟩ := x
        simp only at hc0 hc1 H1 hcn HH
        generalize hr : cmpv (x1 : Int) (b : Int) = r at *
        clear hr
        by_cases hr0 : r = 0
        · go_wp2_with fail
          refine (unhide H1).mono ?_
          rintro e w2 ⟨rfl, b2⟩
          have HW2 := hide ((unhide HW).trans (b2.mono (unhide HW).size))
          clear b2 H1 HW
          go_wp2
          go_ret2
          refine ⟨lo, unhide HPl, ?_, unhide HW2⟩
          rw [unhide HH]
          simp [hcn.1 hr0]
        · go_wp2_with fail
          refine (unhide H1).mono ?_
          rintro e w2 ⟨rfl, b2⟩
          have HW2 := hide ((unhide HW).trans (b2.mono (unhide HW).size))
          clear b2 H1 HW
          go_wp2
          go_ret2
          refine ⟨lo, unhide HPl, ?_, unhide HW2⟩
          have : ¬ x1 = b := fun q => hr0 (hcn.2 q)
          rw [unhide HH]
          simp [this, hr0]
      · have hn' : ¬ (lo : Int) < (l.length : Int) := by omega
        have HH := hide (show hit l b lo = false by simp [hit, hn2])
        clear hbel
        go_wp2
        go_ret2
        refine ⟨lo, unhide HPl, ?_, unhide HW⟩
        rw [unhide HH]
        simp
theorem place_any {D : Nat} {d : Ds} {vw vl : Value} {w : World} (h : DAt D d vw vl w) (hs : Srt d.ws) (hn : d.ws.length ≤ 1000000000000) (b : Nat) :
    Calls Tryz.prog 207 #[ptr D, I b] w fun e w' => ∃ i, Plc d.ws b i ∧ e = .returned (.tuple #[I i, .bool (hit d.ws b i)]) ∧ Below w.heap.size w w' := by
  obtain ⟨c0, c1, c2, c3, c4⟩ := h.c
  have hl := h.lt
  obtain ⟨p, cap, rfl, hp⟩ := Wls.of h.ws
  have H1 := hide (search_any p _ cap d.ws b w hp hs hn)
  clear h hp hs
  generalize hm : d.ws.length = n at *
  go_enter Tryz.func207, Tryz.ntmps207
  go_wp2_with fail
  refine (unhide H1).mono ?_
  rintro e w1 ⟨i, hi, rfl, b1⟩
  have HI := hide hi
  have HB := hide b1
  clear hi b1
  go_wp2
  go_ret2
  exact ⟨i, unhide HI, rfl, unhide HB⟩
/-- What is pending of a block. -/
def fnd (l : List Wr) (b : Nat) : Option Bs := (l.find? (fun x => x.1 == b)).map (·.2)
theorem fnd_hit {l : List Wr} {b i : Nat} (hp : Plc l b i) (h : hit l b i = true) : fnd l b = some (l.getD i (0, [])).2 := by
  obtain ⟨h1, h2⟩ : i < l.length ∧ (l.getD i (0, [])).1 = b := by simpa [hit] using h
  have : l.find? (fun x => x.1 == b) = some (l.getD i (0, [])) := by
    rw [List.find?_eq_some_iff_getElem]
    refine ⟨by simpa using h2, i, h1, by simp [h1], fun j hj => ?_⟩
    have := hp.2.1 j hj
    have e : l.getD j (0, []) = l[j] := by simp [show j < l.length by omega]
    rw [e] at this
    simp
    omega
  unfold fnd
  rw [this]
  rfl
theorem fnd_miss {l : List Wr} {b i : Nat} (hs : Srt l) (hp : Plc l b i) (h : hit l b i = false) : fnd l b = none := by
  have : l.find? (fun x => x.1 == b) = none := by
    rw [List.find?_eq_none]
    intro x hx
    obtain ⟨j, hj, rfl⟩ := List.getElem_of_mem hx
    have e : l.getD j (0, []) = l[j] := by simp [hj]
    rcases Nat.lt_or_ge j i with q | q
    · have := hp.2.1 j q
      rw [e] at this
      simp
      omega
    · have := hp.2.2 j q hj
      rw [e] at this
      simp
      rcases Nat.lt_or_eq_of_le q with q2 | q2
      · have h3 := hs i j q2 hj
        have h4 := hp.2.2 i (Nat.le_refl _) (by omega)
        rw [e] at h3
        omega
      · subst q2
        intro h5
        have : hit l b i = true := by simp [hit, hj, h5]
        rw [this] at h
        cases h
  unfold fnd
  rw [this]
  rfl
end Go.Proofs.YtjopnhhdemfniaaGreatDoor
namespace Go.Proofs.YtjopnhhdemfniaaGreatDoor
open Go.RowKit
set_option maxHeartbeats 4000000
set_option maxRecDepth 8000
/-- What holds of each disk. -/
structure Ok (d : Ds) : Prop where
  srt : Srt d.ws
  lt : ∀ x ∈ d.ws, x.1 < d.last.length ∧ x.2.length = 512
  sz : ∀ x ∈ d.last, x.length = 512
  len : 8 ≤ d.last.length ∧ d.last.length ≤ 4096
  fuse : 0 ≤ d.fuse ∧ d.fuse ≤ 9223372036854775807
theorem mem_getD {α : Type} {l : List α} {k : Nat} {z : α} (h : k < l.length) : l.getD k z ∈ l := by
  rw [List.getD_eq_getElem?_getD, List.getElem?_eq_getElem h]
  exact List.getElem_mem h
theorem Srt.ge {l : List Wr} (h : Srt l) (i : Nat) (hi : i < l.length) : i ≤ (l.getD i (0, [])).1 := by
  induction i with
  | zero => omega
  | succ i ih =>
    have h1 := ih (by omega)
    have h2 := h i (i + 1) (by omega) hi
    omega
theorem Ok.few {d : Ds} (h : Ok d) : d.ws.length ≤ 4096 := by
  rcases Nat.eq_zero_or_pos d.ws.length with q | q
  · omega
  · have h1 := h.srt.ge (d.ws.length - 1) (by omega)
    have h2 := (h.lt _ (mem_getD (z := (0, [])) (show d.ws.length - 1 < d.ws.length by omega))).1
    have := h.len.2
    omega
theorem find_any {D : Nat} {d : Ds} {vw vl : Value} {w : World} (h : DAt D d vw vl w) (ho : Ok d) (b : Nat) :
    Calls Tryz.prog 195 #[ptr D, I b] w fun e w' => e = .returned (.tuple #[S ((fnd d.ws b).getD []), .bool (fnd d.ws b).isSome]) ∧ Below w.heap.size w w' := by
  have H1 := hide (place_any h ho.srt (by have := ho.few; omega) b)
  obtain ⟨c0, c1, c2, c3, c4⟩ := h.c
  have hl := h.lt
  have HD := hide h
  have HS := hide ho.srt
  obtain ⟨p, cap, rfl, hp⟩ := Wls.of h.ws
  have HP := hide hp
  have hn := ho.few
  clear h hp ho
  go_enter Tryz.func195, Tryz.ntmps195
  go_wp2_with fail
  refine (unhide H1).mono ?_
  rintro e w1 ⟨i, hi, rfl, b1⟩
  have HB := hide b1
  have hc := (b1.cell (p := ⟨D, 0, none⟩) (by exact hl)).trans c0
  have hl1 : D < w1.heap.size := Nat.lt_of_lt_of_le hl b1.size
  cases hh : hit d.ws b i with
  | true =>
    have hf := fnd_hit hi hh
    obtain ⟨hi1, _⟩ : i < d.ws.length ∧ (d.ws.getD i (0, [])).1 = b := by simpa [hit] using hh
    obtain ⟨g, o, rfl, hg, q0, q1⟩ := ((unhide HP).below b1).at hi1
    have HF := hide hf
    clear hf hi b1
    have hi2 : (i : Int) < (d.ws.length : Int) := by omega
    generalize d.ws.getD i (0, []) = x at *
    obtain ⟨x1, x2⟩ := x
    simp only at q0 q1 HF
    go_wp2
    go_ret2
    refine ⟨?_, unhide HB⟩
    rw [unhide HF]
    rfl
  | false =>
    have HF := hide (fnd_miss (unhide HS) hi hh)
    clear hi b1
    go_wp2
    go_ret2
    refine ⟨?_, unhide HB⟩
    rw [unhide HF]
    rfl
/-- What stands on a block. -/
def cur (d : Ds) (b : Nat) : Bs := (fnd d.ws b).getD (d.last.getD b [])
def readS (d : Ds) (b : Int) : Bs := if reachv d b = 0 then cur d b.toNat else []
theorem reach_ok {d : Ds} {b : Int} (h : reachv d b = 0) : d.dead = false ∧ 0 ≤ b ∧ b < d.last.length := by
  unfold reachv at h
  split at h
  · omega
  · rename_i q
    split at h
    · omega
    · split at h
      · omega
      · exact ⟨by simpa using q, by omega, by omega⟩
theorem fnd_mem {l : List Wr} {b : Nat} {s : Bs} (h : fnd l b = some s) : (b, s) ∈ l := by
  unfold fnd at h
  cases q : l.find? (fun x => x.1 == b) with
  | none => rw [q] at h; cases h
  | some x =>
    rw [q] at h
    cases h
    have h1 := List.mem_of_find?_eq_some q
    have h2 := List.find?_some q
    have : x.1 = b := by simpa using h2
    rw [← this]
    exact h1
theorem cur_len {d : Ds} (h : Ok d) {b : Nat} (hb : b < d.last.length) : (cur d b).length = 512 := by
  unfold cur
  cases q : fnd d.ws b with
  | none => exact h.sz _ (mem_getD hb)
  | some s => exact (h.lt _ (fnd_mem q)).2
theorem read_any {D : Nat} {d : Ds} {vw vl : Value} {w : World} (h : DAt D d vw vl w) (ho : Ok d) (b : Int) :
    Calls Tryz.prog 133 #[ptr D, I b] w fun e w' => e = .returned (.tuple #[S (readS d b), I (reachv d b)]) ∧ Below w.heap.size w w' := by
  have H1 := hide (reach_any h b)
  by_cases hr : reachv d b = 0
  · obtain ⟨h1, h2, h3⟩ := reach_ok hr
    obtain ⟨c, rfl⟩ : ∃ c : Nat, b = (c : Int) := ⟨b.toNat, by omega⟩
    have h3' : c < d.last.length := by omega
    have H2 := hide (find_any h ho c)
    obtain ⟨c0, c1, c2, c3, c4⟩ := h.c
    have hl := h.lt
    obtain ⟨p, cap, rfl, hp, _⟩ := Sts.of h.ls
    have HP := hide hp
    have hlen := cur_len ho h3'
    have e1 : readS d c = cur d c := by unfold readS; rw [if_pos hr]; simp
    rw [hr] at H1
    rw [e1, hr]
    clear h hp ho e1 hr
    unfold cur at hlen ⊢
    go_enter Tryz.func133, Tryz.ntmps133
    go_wp2_with fail
    refine (unhide H1).mono ?_
    rintro e w1 ⟨rfl, rfl⟩
    go_wp2_with fail
    refine (unhide H2).mono ?_
    rintro e w2 ⟨rfl, b2⟩
    have HB := hide b2
    have hc := (b2.cell (p := ⟨D, 1, none⟩) (by exact hl)).trans c1
    have hl2 : D < w2.heap.size := Nat.lt_of_lt_of_le hl b2.size
    cases hq : fnd d.ws c with
    | some s =>
      rw [hq] at hlen
      have hs : s.length = 512 := hlen
      have H3 := hide (clone_any s w2 (by omega))
      clear b2 hlen
      go_wp2_with fail
      refine (unhide H3).mono ?_
      rintro e w3 ⟨rfl, b3⟩
      have HB3 := hide ((unhide HB).trans (b3.mono (unhide HB).size))
      clear b3
      go_wp2
      go_ret2
      exact ⟨by rw [hq]; rfl, unhide HB3⟩
    | none =>
      rw [hq] at hlen
      obtain ⟨g, o, rfl, hg, q0⟩ := ((unhide HP).below b2).at h3'
      have hs : (d.last.getD c []).length = 512 := hlen
      clear hlen b2
      generalize hx : d.last.getD c [] = x at *
      have H3 := hide (clone_any x w2 (by omega))
      have HX := hide hx
      clear hx
      go_wp2_with fail
      refine (unhide H3).mono ?_
      rintro e w3 ⟨rfl, b3⟩
      have HB3 := hide ((unhide HB).trans (b3.mono (unhide HB).size))
      clear b3
      go_wp2
      go_ret2
      exact ⟨by rw [hq, Option.getD_none, unhide HX]; rfl, unhide HB3⟩
  · have e1 : readS d b = [] := by unfold readS; rw [if_neg hr]
    rw [e1]
    clear h
    generalize reachv d b = r at *
    go_enter Tryz.func133, Tryz.ntmps133
    go_wp2_with fail
    refine (unhide H1).mono ?_
    rintro e w1 ⟨rfl, rfl⟩
    go_wp2
    go_ret2
    exact ⟨rfl, Below.refl _ _⟩
end Go.Proofs.YtjopnhhdemfniaaGreatDoor
