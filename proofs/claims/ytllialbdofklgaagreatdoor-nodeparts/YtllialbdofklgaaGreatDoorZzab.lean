import Derived.Test.YtllialbdofklgaaGreatDoorZzaa
import Derived.Shelf.Strconv.Clone
import Derived.Test.YtllialbdofklgaaGreatDoorProg
import Derived.OwnWalk
import Derived.RegionTactic
import Derived.BigRegion
namespace Go.Proofs.YtllialbdofklgaaGreatDoor
open Go.RowKit
/-! ### Order of texts -/
theorem lt_irrefl' (a : Bs) : ¬ a < a := List.lt_irrefl a
theorem lt_trans' {a b c : Bs} (h : a < b) (h' : b < c) : a < c := List.lt_trans h h'
theorem lt_total' {a b : Bs} (h : ¬ a < b) (h' : a ≠ b) : b < a := by
  rcases Decidable.em (b < a) with h2 | h2
  · exact h2
  · exact absurd (List.le_antisymm (List.not_lt.1 h2) (List.not_lt.1 h)) h'
theorem less_eq : ∀ (x y : List UInt8), Op.bytesLess x y = decide (x < y)
  | [], [] => by simp [Op.bytesLess]
  | [], _ :: _ => by simp [Op.bytesLess]
  | _ :: _, [] => by simp [Op.bytesLess]
  | a :: x, b :: y => by
    rw [Op.bytesLess, less_eq x y, Bool.eq_iff_iff]
    simp [List.cons_lt_cons_iff]
theorem le_or (x y : Bs) : (Op.bytesLess x y || x == y) = decide (¬ y < x) := by
  rw [less_eq, Bool.eq_iff_iff]
  simp only [Bool.or_eq_true, decide_eq_true_eq, beq_iff_eq]
  constructor
  · rintro (h | rfl) h2
    · exact lt_irrefl' _ (lt_trans' h h2)
    · exact lt_irrefl' _ h2
  · intro h
    rcases Decidable.em (x = y) with q | q
    · exact .inr q
    · exact .inl (lt_total' h (fun e => q e.symm))
theorem run_lss (x y : Bs) (W : World) : (binOp .lss 9 (S x) (S y)).run Tryz.prog W = .ok (.bool (decide (x < y))) W := by
  rw [← less_eq x y]
  simp [binOp, Op.stringOp]
theorem run_leq (x y : Bs) (W : World) : (binOp .leq 9 (S x) (S y)).run Tryz.prog W = .ok (.bool (decide (¬ y < x))) W := by
  rw [← le_or x y]
  simp [binOp, Op.stringOp]
theorem run_gtr (x y : Bs) (W : World) : (binOp .gtr 9 (S x) (S y)).run Tryz.prog W = .ok (.bool (decide (y < x))) W := by
  have e : decide (y < x) = !decide (¬ y < x) := by by_cases h : y < x <;> simp [h]
  rw [e, ← le_or x y]
  simp [binOp, Op.stringOp]
theorem run_geq (x y : Bs) (W : World) : (binOp .geq 9 (S x) (S y)).run Tryz.prog W = .ok (.bool (decide (¬ x < y))) W := by
  have e : decide (¬ x < y) = !decide (x < y) := by by_cases h : x < y <;> simp [h]
  rw [e, ← less_eq x y]
  simp [binOp, Op.stringOp]
theorem run_eql (x y : Bs) (W : World) : (binOp .eql 9 (S x) (S y)).run Tryz.prog W = .ok (.bool (decide (x = y))) W := by
  have e : decide (x = y) = (x == y) := by by_cases h : x = y <;> simp [h]
  rw [e]
  simp [binOp, Op.stringOp]
/-! ### Rising lists -/
def up : List Bs → Bool
  | a :: b :: r => decide (a < b) && up (b :: r)
  | _ => true
abbrev Rs (l : List Bs) : Prop := l.Pairwise (· < ·)
theorem up_iff : ∀ l : List Bs, up l = true ↔ Rs l
  | [] => by simp [up]
  | [a] => by simp [up]
  | a :: b :: r => by
    simp only [up, Bool.and_eq_true, decide_eq_true_eq, up_iff (b :: r)]
    constructor
    · rintro ⟨h, h2⟩
      refine List.pairwise_cons.2 ⟨fun x hx => ?_, h2⟩
      rcases List.mem_cons.1 hx with rfl | hx
      · exact h
      · exact lt_trans' h ((List.pairwise_cons.1 h2).1 x hx)
    · intro h
      exact ⟨(List.pairwise_cons.1 h).1 b (by simp), (List.pairwise_cons.1 h).2⟩
theorem up_of_get {l : List Bs} (h : ∀ i, (hi : i + 1 < l.length) → l[i] < l[i+1]) : up l = true := by
  induction l with
  | nil => rfl
  | cons a r ih =>
    cases r with
    | nil => rfl
    | cons b r =>
      simp only [up, Bool.and_eq_true, decide_eq_true_eq]
      refine ⟨by simpa using h 0 (by simp), ih fun i hi => ?_⟩
      have := h (i+1) (by simp only [List.length_cons] at hi ⊢; omega)
      simpa using this
theorem get_of_up {l : List Bs} (h : up l = true) (i : Nat) (hi : i + 1 < l.length) : l[i] < l[i+1] :=
  List.pairwise_iff_getElem.1 ((up_iff l).1 h) i (i+1) (by omega) hi (by omega)
theorem up_next {l : List Bs} (k : Nat) (hk : k + 1 < l.length) (h : up (l.take (k + 1)) = true) (hl : l.getD k [] < l.getD (k + 1) []) : up (l.take (k + 2)) = true := by
  refine up_of_get fun i hi => ?_
  simp only [List.length_take] at hi
  simp only [List.getElem_take]
  by_cases e : i = k
  · subst e
    rw [List.getD_eq_getElem?_getD, List.getD_eq_getElem?_getD, List.getElem?_eq_getElem (by omega), List.getElem?_eq_getElem hk] at hl
    exact hl
  · have := get_of_up h i (by simp only [List.length_take]; omega)
    simpa using this
theorem up_bad {l : List Bs} (k : Nat) (hk : k + 1 < l.length) (hl : ¬ l.getD k [] < l.getD (k + 1) []) : up l = false := by
  rw [Bool.eq_false_iff]
  intro q
  apply hl
  have := get_of_up q k hk
  rw [List.getD_eq_getElem?_getD, List.getD_eq_getElem?_getD, List.getElem?_eq_getElem (by omega), List.getElem?_eq_getElem hk]
  exact this
theorem up_one (l : List Bs) : up (l.take 1) = true := by
  cases l with
  | nil => rfl
  | cons a r => rfl
theorem up_take {l : List Bs} (h : up l = true) (k : Nat) : up (l.take k) = true := by
  rw [up_iff] at h ⊢
  exact h.sublist (List.take_sublist k l)
/-! ### Between -/
def alk : Bs → Bs → Nat
  | a :: x, b :: y => if a = b then alk x y + 1 else 0
  | _, _ => 0
def btw (a b : Bs) : Bs := if a < b then b.take (alk a b + 1) else b
theorem alk_le : ∀ a b : Bs, alk a b ≤ a.length ∧ alk a b ≤ b.length
  | [], b => by simp [alk]
  | a :: x, [] => by simp [alk]
  | a :: x, b :: y => by
    have := alk_le x y
    unfold alk
    split
    · simp only [List.length_cons]; omega
    · simp
theorem alk_lt : ∀ {a b : Bs}, a < b → alk a b < b.length
  | [], [], h => absurd h (lt_irrefl' _)
  | [], b :: y, _ => by simp [alk]
  | a :: x, [], h => by simp at h
  | a :: x, b :: y, h => by
    unfold alk
    split
    · rename_i e
      subst e
      have := alk_lt (List.cons_lt_cons_iff.1 h |>.resolve_left (by simp) |>.2)
      simp only [List.length_cons]; omega
    · simp
/-- As far as they are alike, and no farther. -/
theorem alk_at : ∀ (a b : Bs) (k : Nat), k < alk a b → a.getD k 0 = b.getD k 0
  | [], b, k, h => by simp [alk] at h
  | a :: x, [], k, h => by simp [alk] at h
  | a :: x, b :: y, k, h => by
    unfold alk at h
    split at h
    · rename_i e
      cases k with
      | zero => simpa using e
      | succ k => simpa using alk_at x y k (by omega)
    · omega
theorem alk_end : ∀ (a b : Bs), alk a b < a.length → alk a b < b.length → a.getD (alk a b) 0 ≠ b.getD (alk a b) 0
  | [], b, h, _ => by simp at h
  | a :: x, [], _, h => by simp at h
  | a :: x, b :: y, h1, h2 => by
    unfold alk at h1 h2 ⊢
    split
    · rename_i e
      rw [if_pos e] at h1 h2
      simpa using alk_end x y (by simpa using h1) (by simpa using h2)
    · rename_i e
      simpa using e
theorem alk_of {a b : Bs} {k : Nat} (h : ∀ j, j < k → a.getD j 0 = b.getD j 0) (ha : k ≤ a.length) (hb : k ≤ b.length) : k ≤ alk a b := by
  induction k generalizing a b with
  | zero => omega
  | succ k ih =>
    cases a with
    | nil => simp at ha
    | cons c x =>
      cases b with
      | nil => simp at hb
      | cons d y =>
        have e : c = d := by simpa using h 0 (by omega)
        unfold alk
        rw [if_pos e]
        have := ih (a := x) (b := y) (fun j hj => by simpa using h (j + 1) (by omega)) (by simpa using ha) (by simpa using hb)
        omega
theorem btw_gt : ∀ {a b : Bs}, a < b → a < b.take (alk a b + 1)
  | [], [], h => absurd h (lt_irrefl' _)
  | [], b :: y, _ => by simp
  | a :: x, [], h => by simp at h
  | a :: x, b :: y, h => by
    unfold alk
    split
    · rename_i e
      subst e
      have := btw_gt (List.cons_lt_cons_iff.1 h |>.resolve_left (by simp) |>.2)
      rw [List.take_succ_cons, List.cons_lt_cons_iff]
      exact .inr ⟨rfl, this⟩
    · rename_i e
      rw [List.take_succ_cons, List.cons_lt_cons_iff]
      exact .inl ((List.cons_lt_cons_iff.1 h).resolve_right (fun q => e q.1))
theorem pre_le : ∀ (b : Bs) (k : Nat), ¬ b < b.take k
  | [], k => by simp
  | b :: y, 0 => by simp
  | b :: y, k + 1 => by
    rw [List.take_succ_cons, List.cons_lt_cons_iff]
    rintro (h | ⟨_, h⟩)
    · exact absurd h (by simp)
    · exact pre_le y k h
theorem pre_lt : ∀ (a b : Bs) (k : Nat), k ≤ alk a b → ¬ a < b.take k
  | a, b, 0, _ => by simp
  | [], b, k + 1, h => by simp [alk] at h
  | a :: x, [], k + 1, h => by simp [alk] at h
  | a :: x, b :: y, k + 1, h => by
    unfold alk at h
    split at h
    · rename_i e
      subst e
      rw [List.take_succ_cons, List.cons_lt_cons_iff]
      rintro (q | ⟨_, q⟩)
      · exact absurd q (by simp)
      · exact pre_lt x y k (by omega) q
    · omega
theorem btw_len {a b : Bs} (h : a < b) : (btw a b).length = alk a b + 1 := by
  have := alk_lt h
  simp only [btw, h, if_true, List.length_take]
  omega
/-! ### Nodes -/
structure Nd where
  leaf : Bool
  keys : List Bs
  vals : List Bs
  kids : List Int
def tot (l : List Bs) : Nat := (l.map List.length).sum
theorem tot_app (a b : List Bs) : tot (a ++ b) = tot a + tot b := by simp [tot, List.map_append, List.sum_append]
theorem tot_next (l : List Bs) (k : Nat) (hk : k < l.length) : tot (l.take (k + 1)) = tot (l.take k) + (l.getD k []).length := by
  rw [List.take_succ_eq_append_getElem hk, tot_app, List.getD_eq_getElem?_getD, List.getElem?_eq_getElem hk]
  simp [tot]
theorem tot_take (l : List Bs) (k : Nat) : tot (l.take k) ≤ tot l := by
  have := tot_app (l.take k) (l.drop k)
  rw [List.take_append_drop] at this
  omega
def Nd.siz (n : Nd) : Nat := if n.leaf then 2 * max n.keys.length n.vals.length + tot n.keys + tot n.vals else 4 * n.kids.length + n.keys.length + tot n.keys
def noKey (x : Bs) : Bool := decide (x.length < 1) || decide (36 < x.length)
def kok (l : List Bs) : Bool := l.all (fun x => !noKey x) && up l
/-- How many are below the key. -/
def blw (l : List Bs) (key : Bs) : Nat := match l with
  | [] => 0
  | a :: r => if a < key then blw r key + 1 else 0
def fnd (n : Nd) (key : Bs) : Nat × Bool :=
  if up n.keys then
    (let at_ := blw n.keys key
     let is := decide (at_ < n.keys.length ∧ n.keys.getD at_ [] = key)
     if n.leaf then (at_, is) else (if is then at_ + 1 else at_, false))
  else (0, false)
theorem blw_le : ∀ (l : List Bs) (key : Bs), blw l key ≤ l.length
  | [], _ => by simp [blw]
  | a :: r, key => by
    have := blw_le r key
    unfold blw
    split
    · simp only [List.length_cons]; omega
    · simp
theorem blw_lt : ∀ (l : List Bs) (key : Bs) (k : Nat), k < blw l key → l.getD k [] < key
  | [], _, k, h => by simp [blw] at h
  | a :: r, key, k, h => by
    unfold blw at h
    split at h
    · rename_i e
      cases k with
      | zero => simpa using e
      | succ k => simpa using blw_lt r key k (by omega)
    · omega
theorem blw_end : ∀ (l : List Bs) (key : Bs), blw l key < l.length → ¬ l.getD (blw l key) [] < key
  | [], _, h => by simp at h
  | a :: r, key, h => by
    unfold blw at h ⊢
    split
    · rename_i e
      rw [if_pos e] at h
      simpa using blw_end r key (by simpa using h)
    · rename_i e
      simpa using e
theorem blw_of {l : List Bs} {key : Bs} {k : Nat} (h : ∀ j, j < k → l.getD j [] < key) (hk : k ≤ l.length) : k ≤ blw l key := by
  induction k generalizing l with
  | zero => omega
  | succ k ih =>
    cases l with
    | nil => simp at hk
    | cons a r =>
      have e : a < key := by simpa using h 0 (by omega)
      unfold blw
      rw [if_pos e]
      have := ih (l := r) (fun j hj => by simpa using h (j + 1) (by omega)) (by simpa using hk)
      omega
end Go.Proofs.YtllialbdofklgaaGreatDoor
namespace Go.Proofs.YtllialbdofklgaaGreatDoor
open Go.Shelf
def Tryz.laysM316_ren : Go.Shelf.Ren := ⟨fun | 316 => 78 | n => n, fun | 9 => 9 | 3 => 3 | 4 => 4 | 37 => 79 | 0 => 0 | 127 => 121 | 5 => 5 | n => n, fun | n => n⟩
theorem Tryz.laysM316 : Go.Proofs.LaysM.n316 Tryz.prog Tryz.laysM316_ren := {
  mixed := by kernel_rfl
  f316 := Tryz.func78.trans (congrArg some (by kernel_rfl))
  t0 := Tryz.underlying0
  a0 := Tryz.isAgg0
  z0 := Tryz.sizeOf0
  v0 := Tryz.zeroValue0
  t3 := Tryz.underlying3
  a3 := Tryz.isAgg3
  z3 := Tryz.sizeOf3
  v3 := Tryz.zeroValue3
  t4 := Tryz.underlying4
  a4 := Tryz.isAgg4
  z4 := Tryz.sizeOf4
  v4 := Tryz.zeroValue4
  t9 := Tryz.underlying9
  a9 := Tryz.isAgg9
  z9 := Tryz.sizeOf9
  v9 := Tryz.zeroValue9
  t37 := Tryz.underlying79
  a37 := Tryz.isAgg79
  z37 := Tryz.sizeOf79
  v37 := Tryz.zeroValue79
  t127 := Tryz.underlying121
  a127 := Tryz.isAgg121
  z127 := Tryz.sizeOf121
  v127 := Tryz.zeroValue121
  t5 := Tryz.underlying5
  a5 := Tryz.isAgg5
  z5 := Tryz.sizeOf5
  v5 := Tryz.zeroValue5
  i0 := by kernel_rfl
  i3 := by kernel_rfl
  i4 := by kernel_rfl
  i5 := by kernel_rfl
  i9 := by kernel_rfl
  i37 := by kernel_rfl
  i127 := by kernel_rfl }

open Go.RowKit Go.Lib in
open Go.RowKit in
open Go.RowKit in
open Go.RowKit in
open Go.RowKit in
theorem Tryz.stringslite_Clone (s : ByteArray) (w : World) (hlim : s.size ≤ 281474976710656) :
    Calls Tryz.prog 78 #[.string s] w fun e w' => e = .returned (.string s) ∧ Below w.heap.size w w' := Any.stringslite_Clone Tryz.laysM316 s w hlim
end Go.Proofs.YtllialbdofklgaaGreatDoor
namespace Go.Proofs.YtllialbdofklgaaGreatDoor
open Go.RowKit
set_option maxHeartbeats 4000000
set_option maxRecDepth 8000
theorem clone_any (s : Bs) (w : World) (hs : s.length ≤ 281474976710656) : Calls Tryz.prog 54 #[S s] w fun e w' => e = .returned (S s) ∧ Below w.heap.size w w' := by
  have H := hide (Tryz.stringslite_Clone ⟨s.toArray⟩ w (by simpa [ByteArray.size] using hs))
  go_enter Tryz.func54, Tryz.ntmps54
  go_wp2_with fail
  refine (unhide H).mono ?_
  rintro e w1 ⟨rfl, b1⟩
  have HB := hide b1
  clear b1
  go_wp2
  go_ret
  exact ⟨rfl, unhide HB⟩
/-- Texts in memory. -/
def Sts (w : World) (a : Option Addr) (n : Nat) (l : List Bs) : Prop :=
  n = l.length ∧ (0 < n → ∃ p o, a = some ⟨p, o, none⟩ ∧ ∀ j, j < n → w.cell? ⟨p, o + j, none⟩ = some (S (l.getD j [])))
theorem blk_lt {w : World} {p o : Nat} {v : Value} (h : w.cell? ⟨p, o, none⟩ = some v) : p < w.heap.size := block_lt_of_cell h
theorem Sts.at {w : World} {a : Option Addr} {n : Nat} {l : List Bs} (h : Sts w a n l) {j : Nat} (hj : j < n) : ∃ p o, a = some ⟨p, o, none⟩ ∧ p < w.heap.size ∧ w.cell? ⟨p, o + j, none⟩ = some (S (l.getD j [])) := by
  obtain ⟨p, o, e, hc⟩ := h.2 (by omega)
  exact ⟨p, o, e, blk_lt (hc j hj), hc j hj⟩
theorem Sts.below {w w' : World} {a : Option Addr} {n : Nat} {l : List Bs} (h : Sts w a n l) (hb : Below w.heap.size w w') : Sts w' a n l := by
  refine ⟨h.1, fun hn => ?_⟩
  obtain ⟨p, o, e, hc⟩ := h.2 hn
  exact ⟨p, o, e, fun j hj => (hb.cell (by exact blk_lt (hc j hj))).trans (hc j hj)⟩
theorem Sts.of {w : World} {v : Value} {l : List Bs} (h : w.ownsRow 0 9 1 v l.length (l.map S)) : ∃ p cap, v = .slice p l.length cap ∧ Sts w p l.length l ∧ (∀ g o, p = some ⟨g, o, none⟩ → v.ownBlock = some g) := by
  rcases h.2 with ⟨e, q⟩ | ⟨g, cap, cur, e1, e2⟩
  · exact ⟨none, 0, by rw [e, q], ⟨rfl, fun h => by omega⟩, fun g o e => by cases e⟩
  · refine ⟨_, cap, e1, ⟨rfl, fun _ => ⟨g, 0, rfl, fun j hj => ?_⟩⟩, fun g' o e => ?_⟩
    · subst e1
      rw [Nat.zero_add]
      exact owns_cell h j _ (by simp [hj])
    · cases e
      rw [e1]
      rfl
/-- The first k are copied. -/
def half (l : List Bs) (k : Nat) : List Value := (l.take k).map S ++ List.replicate (l.length - k) (S [])
theorem half_set (l : List Bs) (k : Nat) (hk : k < l.length) : (half l k).set k (S (l.getD k [])) = half l (k + 1) := by
  unfold half
  have e : l.length - k = (l.length - (k + 1)) + 1 := by omega
  have hlen : ((l.take k).map S).length = k := by simp; omega
  have e2 : l.getD k [] = l[k] := by simp [hk]
  rw [List.set_append_right _ _ (by omega), hlen, Nat.sub_self, e, List.replicate_succ, List.set_cons_zero, List.take_succ_eq_append_getElem hk, List.map_append, List.append_assoc, e2]
  rfl
theorem half_all (l : List Bs) : half l l.length = l.map S := by simp [half]
theorem half_at (l : List Bs) (k : Nat) (hk : k < l.length) : (half l k)[k]? = some (S []) := by
  unfold half
  have hlen : ((l.take k).map S).length = k := by simp; omega
  rw [List.getElem?_append_right (by omega), hlen, Nat.sub_self, List.getElem?_replicate, if_pos (by omega)]
theorem made9 (m : Nat) : (madeCells #[Value.string ⟨#[]⟩] m).toList = List.replicate m (S []) := by
  unfold madeCells
  apply List.ext_getElem
  · simp
  · intro i h1 h2
    simp [Nat.mod_one]
end Go.Proofs.YtllialbdofklgaaGreatDoor
namespace Go.Proofs.YtllialbdofklgaaGreatDoor
open Go.RowKit
set_option maxHeartbeats 4000000
set_option maxRecDepth 8000
/-- What copy does: things of sz cells each. -/
theorem run_copyk (w : World) (T e ty : TypeId) (z : Value) (sz bys : Nat) (ht : Tryz.prog.underlying T = some (.slice e)) (hinfo : (Tryz.prog.info? e).map (fun i => (i.zero, i.size, i.bytes)) = some (some z, sz, bys))
    (g off dn dcap : Nat) (ad : Addr) (sn scap : Nat) (cur : Array Value) (cs : List Value) (m : Nat) (hm : m = Nat.min sn dn) (hg : w.heap[g]? = some (.cells cur e (0, 0))) (hn : cs.length = m * sz)
    (hsrc : ∀ j v, cs[j]? = some v → w.cell? (ad.add j) = some v) (hfit : off + cs.length ≤ cur.size) (h1 : ∀ v ∈ cs, v.oneCell' = true) :
    (Builtin.copy_ #[T, T] ty #[.slice (some ⟨g, off, none⟩) dn dcap, .slice (some ad) sn scap]).run Tryz.prog w =
      .ok (goInt m) (w.setRow g (cur.toList.take off ++ cs ++ cur.toList.drop (off + cs.length)).toArray) := by
  have hl := run_loadCells_list (P := Tryz.prog) w ad cs hsrc
  have hst := run_storeCells_at Tryz.prog g off e cs 0 cur w hg (by simpa using hfit) h1
  obtain ⟨i0, hi, hz0, hz1, hz2⟩ := info_parts hinfo
  rw [hn] at hl
  simp only [Nat.add_zero] at hst
  simp [Builtin.copy_, run_underlying ht, Builtin.lenOf, Builtin.firstCells, sizeOf, typeInfo, hi, hz1, ← hm, hl, hst]
theorem wp_copyk {ops : Array Oper} {rest : List Oper} {o : Oper} {a : Act} {w : World} {Q : Exit → Act → World → Prop} (T e : TypeId) (z : Value) (sz bys : Nat) (ht : Tryz.prog.underlying T = some (.slice e)) (hinfo : (Tryz.prog.info? e).map (fun i => (i.zero, i.size, i.bytes)) = some (some z, sz, bys)) (hgd : o.guard = none) (d s : Operand)
    (ho : o.op = .call { callee := .builtin .copy, args := #[d, s], argTypes := #[T, T] }) (g off dn dcap : Nat) (ad : Addr) (sn scap : Nat) (hd : a.eval d = .slice (some ⟨g, off, none⟩) dn dcap) (hs : a.eval s = .slice (some ad) sn scap)
    (cur : Array Value) (cs : List Value) (m : Nat) (hm : m = Nat.min sn dn) (hg : w.heap[g]? = some (.cells cur e (0, 0))) (hn : cs.length = m * sz)
    (hsrc : ∀ j v, cs[j]? = some v → w.cell? (ad.add j) = some v) (hfit : off + cs.length ≤ cur.size) (h1 : ∀ v ∈ cs, v.oneCell' = true)
    (h : ∀ w', w' = w.setRow g (cur.toList.take off ++ cs ++ cur.toList.drop (off + cs.length)).toArray → wpList Tryz.prog ops Q rest (a.put o.dst (goInt m)) w') : wpList Tryz.prog ops Q (o :: rest) a w := by
  have hr := run_copyk w T e o.type z sz bys ht hinfo g off dn dcap ad sn scap cur cs m hm hg hn hsrc hfit h1
  refine wpList_plain hgd fun K hK => ?_
  unfold Oper.wp
  simp only [execOp, ho, resolve, invoke, builtin, Sem.run_bind, Sem.run_pure, Result.andThen_ok, List.map_toArray, List.map_cons, List.map_nil, hd, hs, hr]
  exact hK _ _ (h _ rfl)
theorem setRow_only (w : World) (g : Nat) (cs : Array Value) : Only (fun k => k = g) w (w.setRow g cs) := ⟨rfl, rfl, rfl, by simp [World.setRow], fun k _ hk => setRow_other w g k _ hk⟩
end Go.Proofs.YtllialbdofklgaaGreatDoor
namespace Go.Proofs.YtllialbdofklgaaGreatDoor
open Go.RowKit
set_option maxHeartbeats 4000000
set_option maxRecDepth 8000
/-- Numbers in memory. -/
def Ins (w : World) (a : Option Addr) (n : Nat) (l : List Int) : Prop :=
  n = l.length ∧ (0 < n → ∃ p o, a = some ⟨p, o, none⟩ ∧ ∀ j, j < n → w.cell? ⟨p, o + j, none⟩ = some (I (l.getD j 0)))
theorem Ins.at {w : World} {a : Option Addr} {n : Nat} {l : List Int} (h : Ins w a n l) {j : Nat} (hj : j < n) : ∃ p o, a = some ⟨p, o, none⟩ ∧ p < w.heap.size ∧ w.cell? ⟨p, o + j, none⟩ = some (I (l.getD j 0)) := by
  obtain ⟨p, o, e, hc⟩ := h.2 (by omega)
  exact ⟨p, o, e, blk_lt (hc j hj), hc j hj⟩
theorem Ins.below {w w' : World} {a : Option Addr} {n : Nat} {l : List Int} (h : Ins w a n l) (hb : Below w.heap.size w w') : Ins w' a n l := by
  refine ⟨h.1, fun hn => ?_⟩
  obtain ⟨p, o, e, hc⟩ := h.2 hn
  exact ⟨p, o, e, fun j hj => (hb.cell (by exact blk_lt (hc j hj))).trans (hc j hj)⟩
theorem Ins.only {P : Nat → Prop} {w w' : World} {a : Option Addr} {n : Nat} {l : List Int} (h : Ins w a n l) (hb : Only P w w') (hp : ∀ g o, a = some ⟨g, o, none⟩ → ¬ P g) : Ins w' a n l := by
  refine ⟨h.1, fun hn => ?_⟩
  obtain ⟨p, o, e, hc⟩ := h.2 hn
  exact ⟨p, o, e, fun j hj => (World.cell?_of_block (hb.block p (blk_lt (hc j hj)) (hp p o e))).trans (hc j hj)⟩
theorem Ins.of {w : World} {v : Value} {l : List Int} (h : w.ownsRow 0 3 1 v l.length (l.map fun n => I n)) : ∃ p cap, v = .slice p l.length cap ∧ Ins w p l.length l ∧ (∀ g o, p = some ⟨g, o, none⟩ → v.ownBlock = some g) := by
  rcases h.2 with ⟨e, q⟩ | ⟨g, cap, cur, e1, e2⟩
  · exact ⟨none, 0, by rw [e, q], ⟨rfl, fun h => by omega⟩, fun g o e => by cases e⟩
  · refine ⟨_, cap, e1, ⟨rfl, fun _ => ⟨g, 0, rfl, fun j hj => ?_⟩⟩, fun g' o e => ?_⟩
    · subst e1
      rw [Nat.zero_add]
      exact owns_cell h j _ (by simp [hj])
    · cases e
      rw [e1]
      rfl
theorem Ins.nil (w : World) (a : Option Addr) : Ins w a 0 [] := ⟨rfl, fun h => by omega⟩
end Go.Proofs.YtllialbdofklgaaGreatDoor
