import Derived.Test.YtpidmpefodnffaaGreatDoorDsa
import Derived.Lib.BufSteps
import Derived.WalkKit
namespace Go.Proofs.YtpidmpefodnffaaGreatDoor
open Go.RowKit Go.Lib
def B (c : UInt8) : Value := .int .u8 (c.toNat : Int)
theorem ofInt_i64 (a : Nat) (ha : a < 9223372036854775808) : (BitVec.ofInt 64 (a : Int)).toNat = a := by
  rw [BitVec.toNat_ofInt]; omega
theorem i64_and_nat (a b : Nat) (ha : a < 9223372036854775808) (hb : b < 9223372036854775808) : bits .and .i64 (a : Int) (b : Int) = ((a &&& b : Nat) : Int) := by
  have hx : a &&& b < 2 ^ 63 := Nat.and_lt_two_pow a hb
  have h1 := ofInt_i64 a ha
  have h2 := ofInt_i64 b hb
  have hb' : bits .and .i64 (a : Int) (b : Int) = IntKind.i64.wrap (((BitVec.ofInt 64 (a : Int)) &&& (BitVec.ofInt 64 (b : Int))).toNat : Int) := rfl
  rw [hb', BitVec.toNat_and, h1, h2, IntKind.wrap_i64]; omega
theorem i64_or_nat (a b : Nat) (ha : a < 9223372036854775808) (hb : b < 9223372036854775808) : bits .or .i64 (a : Int) (b : Int) = ((a ||| b : Nat) : Int) := by
  have hx : a ||| b < 2 ^ 63 := Nat.or_lt_two_pow ha hb
  have h1 := ofInt_i64 a ha
  have h2 := ofInt_i64 b hb
  have hb' : bits .or .i64 (a : Int) (b : Int) = IntKind.i64.wrap (((BitVec.ofInt 64 (a : Int)) ||| (BitVec.ofInt 64 (b : Int))).toNat : Int) := rfl
  rw [hb', BitVec.toNat_or, h1, h2, IntKind.wrap_i64]; omega
/-- Bits that stand behind others. -/
theorem or_add (k a b : Nat) (hb : b < 2 ^ k) (ha : a * 2 ^ k + b < 9223372036854775808) : bits .or .i64 ((a : Int) * 2 ^ k) (b : Int) = ((a * 2 ^ k + b : Nat) : Int) := by
  have e : ((a : Int) * 2 ^ k) = ((a * 2 ^ k : Nat) : Int) := by push_cast; rfl
  rw [e, i64_or_nat _ _ (by omega) (by omega)]
  congr 1
  rw [← Nat.shiftLeft_eq, Nat.shiftLeft_add_eq_or_of_lt hb]
theorem and_mod (k a : Nat) (hk : k < 63) (ha : a < 9223372036854775808) : bits .and .i64 (a : Int) ((2 : Int) ^ k - 1) = ((a % 2 ^ k : Nat) : Int) := by
  have h1 : 0 < 2 ^ k := Nat.two_pow_pos k
  have h2 : 2 ^ k < 2 ^ 63 := Nat.pow_lt_pow_right (by decide) hk
  have e : ((2 : Int) ^ k - 1) = ((2 ^ k - 1 : Nat) : Int) := by
    rw [Int.ofNat_sub h1]; push_cast; rfl
  rw [e, i64_and_nat _ _ ha (by omega), Nat.and_two_pow_sub_one_eq_mod]
theorem wrap_c (c : UInt8) : wrap64 (c.toNat : Int) = (c.toNat : Int) := IntWalk.wrap64_in _ (by have := c.toNat_lt; omega)
/-- Bytes in memory of one's own, that may be made longer. -/
def Own (base : Nat) (v : Value) (X : List UInt8) (W0 w : World) : Prop := OwnBuf base 5 v X.length (X.map B) W0 w
theorem wpList_conv {P : Program} {ops : Array Oper} {rest : List Oper} {o : Oper} {a : Act} {w : World} {Q : Exit → Act → World → Prop} (hgd : o.guard = none) (src dst : TypeId) (x : Operand) (ho : o.op = .convert src dst x)
    (v v' : Value) (hx : a.eval x = v) (hrun : (convert src dst v).run P w = .ok v' w)
    (h : wpList P ops Q rest (a.put o.dst v') w) : wpList P ops Q (o :: rest) a w :=
  wpList_plain hgd fun _ hK => by
    unfold Oper.wp execOp
    simp only [ho, hx, Sem.run_bind, hrun, Result.andThen_ok]
    exact hK _ _ h
theorem fold_push (l : List UInt8) (r : ByteArray) : (l.map fun c => (c.toNat : Int)).foldl (fun r n => r.push (UInt8.ofNat n.toNat)) r = ⟨r.data ++ l.toArray⟩ := by
  induction l generalizing r with
  | nil => simp
  | cons c l ih =>
    simp only [List.map_cons, List.foldl_cons, ih]
    simp [ByteArray.push]
/-- What lies in memory as bytes is the text of them. -/
theorem run_text (w : World) (g o len cap : Nat) (l : List UInt8) (hl : l.length = len) (h : ∀ j, j < len → w.cell? ⟨g, o + j, none⟩ = some (.int .u8 ((l.getD j 0).toNat : Int))) :
    (convert 105 9 (.slice (some ⟨g, o, none⟩) len cap)).run Tryz.prog w = .ok (.string ⟨l.toArray⟩) w := by
  rw [run_convert_bytes_string w 105 9 5 _ _ _ Tryz.underlying105 Tryz.underlying5 Tryz.underlying9]
  have hload : (loadCells ⟨g, o, none⟩ len).run Tryz.prog w = .ok ((l.map fun c => (c.toNat : Int)).map (Value.int .u8)).toArray w := by
    have := run_loadCells_list (P := Tryz.prog) w ⟨g, o, none⟩ ((l.map fun c => (c.toNat : Int)).map (Value.int .u8)) (fun j v hv => by
      have hadd : (⟨g, o, none⟩ : Addr).add j = ⟨g, o + j, none⟩ := by unfold Addr.add; split <;> simp_all
      rw [hadd]
      have hj : j < len := by
        have := (List.getElem?_eq_some_iff.1 hv).1
        simpa [hl] using this
      rw [h j hj, ← hv]
      simp [List.getElem?_map, List.getElem?_eq_getElem (by omega : j < l.length)])
    simpa [hl] using this
  rw [run_bytesToString w _ _ _ _ hload, fold_push]
  simp
theorem run_text_nil (w : World) : (convert 105 9 (.slice none 0 0)).run Tryz.prog w = .ok (.string ⟨(([] : List UInt8)).toArray⟩) w := by kernel_rfl
theorem Own.text {base : Nat} {v : Value} {X : List UInt8} {W0 w : World} (h : Own base v X W0 w) : (convert 105 9 v).run Tryz.prog w = .ok (.string ⟨X.toArray⟩) w := by
  have hc := fun {g : Nat} (hg : v.ownBlock = some g) => h.1.cells hg
  rcases h.1.2 with ⟨e, q⟩ | ⟨g, cap, cur, fz, e1, e2⟩
  · subst e
    have : X = [] := List.eq_nil_of_length_eq_zero q
    subst this
    exact run_text_nil w
  · subst e1
    refine run_text w g 0 X.length cap X rfl ?_
    intro j hj
    rw [Nat.zero_add]
    have := hc (g := g) rfl j (B (X.getD j 0)) (by simp [hj])
    have hadd : (⟨g, 0, none⟩ : Addr).add j = ⟨g, j, none⟩ := by unfold Addr.add; split <;> simp_all
    rw [hadd] at this
    exact this
theorem take_snoc (l : List UInt8) (k : Nat) (h : k < l.length) : l.take (k + 1) = l.take k ++ [l[k]] := List.take_succ_eq_append_getElem h
end Go.Proofs.YtpidmpefodnffaaGreatDoor
/- A region that draws its order, by an invariant: one goal an operation, not one an order. -/
namespace Go.Proofs.YtpidmpefodnffaaGreatDoor
variable {P : Program} {ops : Array Oper} {Q : Exit → Act → World → Prop}
def upd (L : Nat → Bool) (i : Nat) : Nat → Bool := fun j => if j = i then true else L j
def left (listed : Array Bool) : Nat → Nat
  | 0 => 0
  | n + 1 => left listed n + (if listed.getD n true = false then 1 else 0)
theorem left_zero {listed : Array Bool} : ∀ {n : Nat}, left listed n = 0 → ∀ i, i < n → listed.getD i true = true := by
  intro n
  induction n with
  | zero => intro _ i hi; omega
  | succ n ih =>
    intro h i hi
    simp only [left] at h
    by_cases e : i = n
    · subst e
      cases hq : listed.getD i true
      · simp [hq] at h
      · rfl
    · exact ih (by omega) i (by omega)
theorem left_set {listed : Array Bool} {i : Nat} (hi : listed.getD i true = false) : ∀ {n : Nat}, i < n → left (listed.setIfInBounds i true) n + 1 = left listed n := by
  have hlt : i < listed.size := by
    rcases Nat.lt_or_ge i listed.size with h' | h'
    · exact h'
    · simp [Array.getElem?_eq_none h'] at hi
  have hself : (listed.setIfInBounds i true).getD i true = true := by simp [hlt]
  have low : ∀ n, n ≤ i → left (listed.setIfInBounds i true) n = left listed n := by
    intro n
    induction n with
    | zero => intro _; rfl
    | succ n ih =>
      intro h
      simp only [left]
      rw [ih (by omega), getD_set_ne true (by omega)]
  intro n
  induction n with
  | zero => intro h; omega
  | succ n ih =>
    intro h
    simp only [left]
    by_cases e : i = n
    · subst e
      rw [low i (Nat.le_refl _), hself, hi]
      simp
    · rw [getD_set_ne true e]
      have := ih (by omega)
      omega
theorem any_inv (I : (Nat → Bool) → Act → World → Prop)
    (hac : ∀ i o, ops[i]? = some o → ∀ e ∈ o.after, Region.binds .any e = true → e.on < i)
    (hstep : ∀ L a w i o, ops[i]? = some o → L i = false → (∀ e ∈ o.after, Region.binds .any e = true → L e.on = true) → I L a w → wpOp P ops Q i (fun a' w' => I (upd L i) a' w') a w)
    (hend : ∀ L a w, (∀ i, i < ops.size → L i = true) → I L a w → Q .normal a w) :
    ∀ fuel listed a w, listed.size = ops.size → left listed ops.size ≤ fuel → I (fun j => listed.getD j false) a w → wpAny P .any ops Q fuel listed a w := by
  have same : ∀ (listed : Array Bool) (j : Nat), j < listed.size → listed.getD j true = listed.getD j false := by
    intro listed j hj; simp [hj]
  have nil : ∀ (listed : Array Bool) (a : Act) (w : World), listed.size = ops.size → I (fun j => listed.getD j false) a w → Region.ready .any ops listed = [] → Q .normal a w := by
    intro listed a w hs hI hr
    refine hend _ a w ?_ hI
    intro i
    induction i using Nat.strongRecOn with
    | ind i ih =>
      intro hi
      cases hq : listed.getD i false
      · exfalso
        have hm : i ∈ Region.ready .any ops listed := by
          rw [mem_ready]
          refine ⟨by rw [same listed i (by omega)]; exact hq, ops[i], by simp [hi], ?_⟩
          intro e he hb
          have hlt := hac i ops[i] (by simp [hi]) e he hb
          exact ih e.on hlt (by omega)
        rw [hr] at hm
        cases hm
      · rfl
  intro fuel
  induction fuel with
  | zero =>
    intro listed a w hs hl hI
    have hr : Region.ready .any ops listed = [] := by
      cases hq : Region.ready .any ops listed with
      | nil => rfl
      | cons x xs =>
        have hm : x ∈ Region.ready .any ops listed := by rw [hq]; simp
        rw [mem_ready] at hm
        obtain ⟨h1, o, ho, _⟩ := hm
        have hlt : x < ops.size := (Array.getElem?_eq_some_iff.1 ho).1
        have := left_zero (listed := listed) (n := ops.size) (by omega) x hlt
        rw [this] at h1
        cases h1
    exact ⟨hr, nil listed a w hs hI hr⟩
  | succ fuel ih =>
    intro listed a w hs hl hI
    refine ⟨nil listed a w hs hI, ?_⟩
    intro i hi
    rw [mem_ready] at hi
    obtain ⟨h1, o, ho, hall⟩ := hi
    have hlt : i < ops.size := (Array.getElem?_eq_some_iff.1 ho).1
    refine wpOp_mono ?_ (hstep (fun j => listed.getD j false) a w i o ho (by rw [← same listed i (by omega)]; exact h1) hall hI)
    intro a' w' hI'
    refine ih (listed.setIfInBounds i true) a' w' (by simpa using hs) (by have := left_set h1 hlt; omega) ?_
    have e : (fun j => (listed.setIfInBounds i true).getD j false) = upd (fun j => listed.getD j false) i := by
      funext j
      unfold upd
      by_cases hj : j = i
      · subst hj
        simp [hs, hlt]
      · rw [if_neg hj, getD_set_ne false (Ne.symm hj)]
    rw [e]
    exact hI'
theorem region_inv {id : Nat} {a : Act} {w : World} (hm : P.follows .mixedOrders = true) (I : (Nat → Bool) → Act → World → Prop)
    (hac : ∀ i o, ops[i]? = some o → ∀ e ∈ o.after, Region.binds .any e = true → e.on < i)
    (h0 : I (fun _ => false) a w.drew)
    (hstep : ∀ L a w i o, ops[i]? = some o → L i = false → (∀ e ∈ o.after, Region.binds .any e = true → L e.on = true) → I L a w → wpOp P ops Q i (fun a' w' => I (upd L i) a' w') a w)
    (hend : ∀ L a w, (∀ i, i < ops.size → L i = true) → I L a w → Q .normal a w) : (Code.region id ops true).wp P Q a w := by
  refine wp_region_any hm ?_
  refine any_inv I hac hstep hend ops.size _ a _ (by simp) ?_ ?_
  · have : ∀ n, n ≤ ops.size → left (Array.replicate ops.size false) n ≤ n := by
      intro n
      induction n with
      | zero => intro _; simp [left]
      | succ n ih => intro h; simp only [left]; have := ih (by omega); split <;> omega
    exact this _ (Nat.le_refl _)
  · have e : (fun j => (Array.replicate ops.size false).getD j false) = fun _ => false := by
      funext j
      by_cases hj : j < ops.size
      · simp [hj]
      · simp [Array.getElem?_eq_none (show (Array.replicate ops.size false).size ≤ j by simp; omega)]
    rw [e]
    exact h0
end Go.Proofs.YtpidmpefodnffaaGreatDoor
/- A region that draws its order, each of whose operations yields one value, whatever the order: one goal an operation, over a frame of which a few slots are known. -/
namespace Go.Proofs.YtpidmpefodnffaaGreatDoor
variable {P : Program} {ops : Array Oper} {Q : Exit → Act → World → Prop}
/-- Where an operation lays what it yields. -/
def dstOf (ops : Array Oper) (i : Nat) : Option Tmp := (ops[i]?).bind (·.dst)
/-- The frame behind those operations that came up. -/
def frm (ops : Array Oper) (a0 : Act) (val : Nat → Value) (L : Nat → Bool) : Nat → Act
  | 0 => a0
  | n + 1 => if L n = true then (frm ops a0 val L n).put (dstOf ops n) (val n) else frm ops a0 val L n
theorem put_comm (a : Act) (d e : Option Tmp) (u v : Value) (h : d ≠ e ∨ d = none) : (a.put d u).put e v = (a.put e v).put d u := by
  cases d with
  | none => rfl
  | some x =>
    cases e with
    | none => rfl
    | some y =>
      have hne : x ≠ y := by
        rcases h with h | h
        · intro q; exact h (by rw [q])
        · cases h
      simp only [Act.put]
      rw [Array.setIfInBounds_comm _ _ hne]
theorem frm_upd (a0 : Act) (val : Nat → Value) (L : Nat → Bool) (i : Nat) (hL : L i = false) (hd : ∀ j, j ≠ i → dstOf ops j ≠ dstOf ops i ∨ dstOf ops j = none) :
    ∀ n, frm ops a0 val (upd L i) n = if i < n then (frm ops a0 val L n).put (dstOf ops i) (val i) else frm ops a0 val L n := by
  intro n
  induction n with
  | zero => simp [frm]
  | succ n ih =>
    by_cases e : n = i
    · subst e
      have e1 : upd L n n = true := by simp [upd]
      have e2 : frm ops a0 val L (n + 1) = frm ops a0 val L n := by simp [frm, hL]
      have e3 : frm ops a0 val (upd L n) (n + 1) = (frm ops a0 val (upd L n) n).put (dstOf ops n) (val n) := by simp [frm, e1]
      rw [e3, e2, ih, if_neg (Nat.lt_irrefl n), if_pos (Nat.lt_succ_self n)]
    · have e1 : upd L i n = L n := by simp [upd, e]
      cases hn : L n with
      | false =>
        have e2 : frm ops a0 val L (n + 1) = frm ops a0 val L n := by simp [frm, hn]
        have e3 : frm ops a0 val (upd L i) (n + 1) = frm ops a0 val (upd L i) n := by simp [frm, e1, hn]
        rw [e3, e2, ih]
        by_cases hlt : i < n
        · rw [if_pos hlt, if_pos (show i < n + 1 by omega)]
        · rw [if_neg hlt, if_neg (show ¬ i < n + 1 by omega)]
      | true =>
        have e2 : frm ops a0 val L (n + 1) = (frm ops a0 val L n).put (dstOf ops n) (val n) := by simp [frm, hn]
        have e3 : frm ops a0 val (upd L i) (n + 1) = (frm ops a0 val (upd L i) n).put (dstOf ops n) (val n) := by simp [frm, e1, hn]
        rw [e3, e2, ih]
        by_cases hlt : i < n
        · rw [if_pos hlt, if_pos (show i < n + 1 by omega)]
          exact (put_comm _ _ _ _ _ (hd n e)).symm
        · rw [if_neg hlt, if_neg (show ¬ i < n + 1 by omega)]
theorem put_size (a : Act) (d : Option Tmp) (v : Value) : (a.put d v).tmps.size = a.tmps.size := by
  cases d with
  | none => rfl
  | some x => simp [Act.put]
theorem frm_size (a0 : Act) (val : Nat → Value) (L : Nat → Bool) : ∀ n, (frm ops a0 val L n).tmps.size = a0.tmps.size := by
  intro n
  induction n with
  | zero => rfl
  | succ n ih =>
    simp only [frm]
    split
    · rw [put_size, ih]
    · exact ih
theorem put_get_ne (a : Act) (d : Option Tmp) (v : Value) (s : Nat) (h : d ≠ some s) : (a.put d v).tmps[s]? = a.tmps[s]? := by
  cases d with
  | none => rfl
  | some x =>
    have : x ≠ s := fun q => h (by rw [q])
    simp [Act.put, this]
theorem put_get (a : Act) (s : Nat) (v : Value) (h : s < a.tmps.size) : (a.put (some s) v).tmps[s]? = some v := by
  simp [Act.put, h]
/-- A slot that no operation of the region lays. -/
theorem frm_out (a0 : Act) (val : Nat → Value) (L : Nat → Bool) (s : Nat) : ∀ n, (∀ j, j < n → dstOf ops j ≠ some s) → (frm ops a0 val L n).tmps[s]? = a0.tmps[s]? := by
  intro n
  induction n with
  | zero => intro _; rfl
  | succ n ih =>
    intro h
    simp only [frm]
    split
    · rw [put_get_ne _ _ _ _ (h n (by omega))]; exact ih (fun j hj => h j (by omega))
    · exact ih (fun j hj => h j (by omega))
/-- What an operation that came up has laid. -/
theorem frm_in (a0 : Act) (val : Nat → Value) (L : Nat → Bool) (i s : Nat) (hi : dstOf ops i = some s) (hs : s < a0.tmps.size) (hL : L i = true) (hd : ∀ j, j ≠ i → dstOf ops j ≠ some s) : ∀ n, i < n → (frm ops a0 val L n).tmps[s]? = some (val i) := by
  intro n
  induction n with
  | zero => intro h; omega
  | succ n ih =>
    intro h
    simp only [frm]
    by_cases e : n = i
    · subst e
      rw [if_pos hL, hi, put_get _ _ _ (by rw [frm_size]; exact hs)]
    · have := ih (by omega)
      split
      · rw [put_get_ne _ _ _ _ (hd n e)]; exact this
      · exact this
theorem eval_of {a : Act} {s : Nat} {v : Value} (h : a.tmps[s]? = some v) : a.eval (.tmp s) = v := by
  simp [Act.eval, h]
theorem wanted_none {o : Oper} {y : Nat → Option Bool} (h : o.guard = none) : Region.wanted o y = true := by simp [Region.wanted, h]
theorem wanted_at {o : Oper} {ops : Array Oper} {a : Act} {j s : Nat} {b want : Bool} (h : o.guard = some (j, want)) (hd : dstOf ops j = some s) (hs : a.tmps[s]? = some (.bool b)) : Region.wanted o (yielded ops a.tmps) = (b == want) := by
  unfold dstOf at hd
  simp only [Region.wanted, h, yielded, hd, Option.bind_some, hs]
  cases b <;> cases want <;> rfl
def acB (ops : Array Oper) : Bool := (List.range ops.size).all fun i => match ops[i]? with | some o => o.after.toList.all (fun e => !(Region.binds .any e) || decide (e.on < i)) | none => true
theorem hac_of (h : acB ops = true) : ∀ i o, ops[i]? = some o → ∀ e ∈ o.after, Region.binds .any e = true → e.on < i := by
  intro i o ho e he hb
  have hi : i < ops.size := (Array.getElem?_eq_some_iff.1 ho).1
  have h1 := List.all_eq_true.1 h i (List.mem_range.2 hi)
  simp only [ho] at h1
  have h2 := List.all_eq_true.1 h1 e (by simpa using he)
  simpa [hb] using h2
/-- What an operation that came up has laid. -/
theorem frm_at (hdis : ∀ i j, j ≠ i → dstOf ops j ≠ dstOf ops i ∨ dstOf ops j = none) {a a0 : Act} {val : Nat → Value} {L : Nat → Bool} (ha : a = frm ops a0 val L ops.size) (i s : Nat) (hi : dstOf ops i = some s) (hs : s < a0.tmps.size) (hL : L i = true) : a.tmps[s]? = some (val i) := by
  rw [ha]
  have hlt : i < ops.size := by
    rcases Nat.lt_or_ge i ops.size with h | h
    · exact h
    · simp [dstOf, Array.getElem?_eq_none h] at hi
  refine frm_in a0 val L i s hi hs hL (fun j hj => ?_) _ hlt
  rcases hdis i j hj with q | q
  · rw [← hi]; exact q
  · rw [q]; simp
theorem frm_old {a a0 : Act} {val : Nat → Value} {L : Nat → Bool} (ha : a = frm ops a0 val L ops.size) (s : Nat) (v : Value) (h : (List.range ops.size).all (fun j => !(dstOf ops j == some s)) = true) (h0 : a0.tmps[s]? = some v) : a.tmps[s]? = some v := by
  rw [ha, frm_out a0 val L s ops.size, h0]
  intro j hj q
  have := List.all_eq_true.1 h j (List.mem_range.2 hj)
  rw [q] at this
  simp at this
end Go.Proofs.YtpidmpefodnffaaGreatDoor
namespace Go.Proofs.YtpidmpefodnffaaGreatDoor
/-! ### Names, lists, texts -/
def sg (c : UInt8) : Bool := (decide (97 ≤ c.toNat) && decide (c.toNat ≤ 122)) || (decide (48 ≤ c.toNat) && decide (c.toNat ≤ 57)) || c.toNat == 45 || c.toNat == 95 || c.toNat == 46
def nm (s : Bs) : Bool := decide (1 ≤ s.length) && decide (s.length ≤ 16) && s.all sg
def tl : List Bs → Bs
  | [] => []
  | x :: r => 32 :: (x ++ tl r)
def tx : List Bs → Bs
  | [] => []
  | a :: r => a ++ tl r
def many (l : List Bs) : Bool := decide (8 < l.length) || decide (60 < (tx l).length)
def up : List Bs → Bool
  | a :: b :: r => decide (a < b) && up (b :: r)
  | _ => true
def wr (l : List Bs) : Nat := if l.all nm && up l then (if many l then 61 else 0) else 60
def right (l : List Bs) : Bool := wr l == 0
def spl : Bs → List Bs
  | [] => [[]]
  | c :: r => if c = 32 then [] :: spl r else match spl r with
    | a :: t => (c :: a) :: t
    | [] => [[c]]
def ins (x : Bs) : List Bs → List Bs
  | [] => [x]
  | y :: r => if x < y then x :: y :: r else if x = y then y :: r else y :: ins x r
def rise (l : List Bs) : List Bs := l.foldr ins []
def bound (u : List Bs) : List Bs × Nat := if many u then ([], 61) else (u, 0)
def parse (s : Bs) : List Bs × Nat := if s = [] then ([], 0) else if (spl s).all nm then bound (rise (spl s)) else ([], 60)
def print (l : List Bs) : Bs × Nat := if wr l = 0 then (tx l, 0) else ([], wr l)
/-! ### Order -/
theorem lt_irrefl' (a : Bs) : ¬ a < a := List.lt_irrefl a
theorem lt_trans' {a b c : Bs} (h : a < b) (h' : b < c) : a < c := List.lt_trans h h'
theorem lt_total' {a b : Bs} (h : ¬ a < b) (h' : a ≠ b) : b < a := by
  rcases Decidable.em (b < a) with h2 | h2
  · exact h2
  · exact absurd (List.le_antisymm (List.not_lt.1 h2) (List.not_lt.1 h)) h'
abbrev Rs (l : List Bs) : Prop := l.Pairwise (· < ·)
theorem up_iff : ∀ l : List Bs, up l = true ↔ Rs l
  | [] => by simp [up]
  | [a] => by simp [up]
  | a :: b :: r => by
    simp only [up, Bool.and_eq_true, decide_eq_true_eq, up_iff (b :: r)]
    constructor
    · rintro ⟨h, h2⟩
      refine List.pairwise_cons.2 ⟨fun x hx => ?_, h2⟩
      rcases List.mem_cons.1 hx with rfl | hx
      · exact h
      · exact lt_trans' h ((List.pairwise_cons.1 h2).1 x hx)
    · intro h
      exact ⟨(List.pairwise_cons.1 h).1 b (by simp), (List.pairwise_cons.1 h).2⟩
theorem rs_ext {l l' : List Bs} (h : Rs l) (h' : Rs l') (hm : ∀ x, x ∈ l ↔ x ∈ l') : l = l' := by
  induction l generalizing l' with
  | nil =>
    cases l' with
    | nil => rfl
    | cons b r => exact absurd ((hm b).2 (by simp)) (by simp)
  | cons a r ih =>
    cases l' with
    | nil => exact absurd ((hm a).1 (by simp)) (by simp)
    | cons b r' =>
      obtain ⟨h1, h2⟩ := List.pairwise_cons.1 h
      obtain ⟨h3, h4⟩ := List.pairwise_cons.1 h'
      have e : a = b := by
        rcases List.mem_cons.1 ((hm a).1 (by simp)) with e | e
        · exact e
        rcases List.mem_cons.1 ((hm b).2 (by simp)) with e' | e'
        · exact e'.symm
        · exact absurd (lt_trans' (h1 b e') (h3 a e)) (lt_irrefl' _)
      subst e
      rw [ih h2 h4 fun x => ?_]
      constructor
      · intro hx
        rcases List.mem_cons.1 ((hm x).1 (by simp [hx])) with e | e
        · subst e; exact absurd (h1 _ hx) (lt_irrefl' _)
        · exact e
      · intro hx
        rcases List.mem_cons.1 ((hm x).2 (by simp [hx])) with e | e
        · subst e; exact absurd (h3 _ hx) (lt_irrefl' _)
        · exact e
theorem mem_ins {x z : Bs} : ∀ {l : List Bs}, z ∈ ins x l ↔ z = x ∨ z ∈ l
  | [] => by simp [ins]
  | y :: r => by
    unfold ins
    split
    · simp
    · split
      · rename_i e; subst e; simp
      · simp only [List.mem_cons, mem_ins (l := r)]
        constructor
        · rintro (h | h | h) <;> simp [h]
        · rintro (h | h | h) <;> simp [h]
theorem rs_ins {x : Bs} : ∀ {l : List Bs}, Rs l → Rs (ins x l)
  | [], _ => by simp [ins]
  | y :: r, h => by
    obtain ⟨h1, h2⟩ := List.pairwise_cons.1 h
    unfold ins
    split
    · rename_i hlt
      refine List.pairwise_cons.2 ⟨fun z hz => ?_, h⟩
      rcases List.mem_cons.1 hz with rfl | hz
      · exact hlt
      · exact lt_trans' hlt (h1 z hz)
    · split
      · exact h
      · rename_i h3 h4
        refine List.pairwise_cons.2 ⟨fun z hz => ?_, rs_ins h2⟩
        rcases mem_ins.1 hz with rfl | hz
        · exact lt_total' h3 h4
        · exact h1 z hz
theorem mem_rise {z : Bs} : ∀ {l : List Bs}, z ∈ rise l ↔ z ∈ l
  | [] => by simp [rise]
  | y :: r => by
    show z ∈ ins y (rise r) ↔ _
    rw [mem_ins, mem_rise]; simp
theorem rs_rise : ∀ l : List Bs, Rs (rise l)
  | [] => by simp [rise]
  | y :: r => rs_ins (rs_rise r)
theorem rise_of {l u : List Bs} (h : Rs u) (hm : ∀ x, x ∈ u ↔ x ∈ l) : rise l = u := rs_ext (rs_rise l) h fun x => mem_rise.trans (hm x).symm

/-! ### Scopes -/
theorem right_iff {l : List Bs} : right l = true ↔ (∀ x ∈ l, nm x = true) ∧ Rs l ∧ many l = false := by
  unfold right wr
  rw [← up_iff, ← List.all_eq_true]
  cases l.all nm <;> cases up l <;> cases many l <;> simp
theorem tl_len : ∀ {l l' : List Bs}, l.Sublist l' → (tl l).length ≤ (tl l').length := by
  intro l l' h
  induction h with
  | slnil => simp
  | cons a _ ih => simp only [tl, List.length_cons, List.length_append]; omega
  | cons_cons a _ ih => simp only [tl, List.length_cons, List.length_append]; omega
theorem tx_tl : ∀ l : List Bs, (tx l).length = (tl l).length - 1
  | [] => rfl
  | a :: r => by simp [tx, tl]
theorem right_nil : right [] = true := by decide
theorem right_bound {l u : List Bs} (hn : ∀ x ∈ l, nm x = true) (h : bound (rise l) = (u, 0)) : u = rise l ∧ right u = true := by
  unfold bound at h
  split at h
  · simp at h
  · rename_i hm
    obtain ⟨rfl, _⟩ := Prod.mk.inj h
    exact ⟨rfl, right_iff.2 ⟨fun x hx => hn x (mem_rise.1 hx), rs_rise l, by simpa using hm⟩⟩
theorem bound_err {u : List Bs} : (bound u = (u, 0) ∧ many u = false) ∨ (bound u = ([], 61) ∧ many u = true) := by
  unfold bound
  cases many u <;> simp
theorem parse_right {s : Bs} {u : List Bs} (h : parse s = (u, 0)) : right u = true := by
  unfold parse at h
  split at h
  · obtain ⟨rfl, _⟩ := Prod.mk.inj h; exact right_nil
  · split at h
    · rename_i hn
      exact (right_bound (List.all_eq_true.1 hn) h).2
    · simp at h
theorem parse_err {s : Bs} {u : List Bs} {e : Nat} (h : parse s = (u, e)) : e = 0 ∨ (u = [] ∧ (e = 60 ∨ e = 61)) := by
  unfold parse at h
  split at h
  · obtain ⟨_, rfl⟩ := Prod.mk.inj h; exact .inl rfl
  · split at h
    · rcases bound_err (u := rise (spl s)) with ⟨h', _⟩ | ⟨h', _⟩ <;> rw [h'] at h <;> obtain ⟨rfl, rfl⟩ := Prod.mk.inj h
      · exact .inl rfl
      · exact .inr ⟨rfl, .inr rfl⟩
    · obtain ⟨rfl, rfl⟩ := Prod.mk.inj h; exact .inr ⟨rfl, .inl rfl⟩

theorem spl_word : ∀ {a : Bs}, (∀ c ∈ a, c ≠ 32) → ∀ (t : Bs), spl (a ++ 32 :: t) = a :: spl t
  | [], _, t => by simp [spl]
  | c :: r, h, t => by
    have hc : c ≠ 32 := h c (by simp)
    show (if c = 32 then [] :: spl (r ++ 32 :: t) else match spl (r ++ 32 :: t) with | a :: t => (c :: a) :: t | [] => [[c]]) = _
    rw [if_neg hc, spl_word (fun x hx => h x (by simp [hx])) t]
theorem spl_one : ∀ {a : Bs}, (∀ c ∈ a, c ≠ 32) → spl a = [a]
  | [], _ => by simp [spl]
  | c :: r, h => by
    unfold spl
    rw [if_neg (h c (by simp)), spl_one (fun x hx => h x (by simp [hx]))]
theorem nm_no {a : Bs} (h : nm a = true) : ∀ c ∈ a, c ≠ 32 := by
  intro c hc e
  simp only [nm, Bool.and_eq_true] at h
  have := List.all_eq_true.1 h.2 c hc
  subst e
  exact absurd this (by decide)
theorem nm_ne {a : Bs} (h : nm a = true) : a ≠ [] := by
  intro e; subst e; exact absurd h (by decide)
theorem spl_tx : ∀ {l : List Bs}, l ≠ [] → (∀ x ∈ l, nm x = true) → spl (tx l) = l
  | [], h, _ => absurd rfl h
  | [a], _, h => by
    have := spl_one (nm_no (h a (by simp)))
    simpa [tx, tl] using this
  | a :: b :: r, _, h => by
    have ih := spl_tx (l := b :: r) (by simp) (fun x hx => h x (by simp [hx]))
    show spl (a ++ 32 :: (b ++ tl r)) = _
    rw [spl_word (nm_no (h a (by simp)))]
    exact congrArg (a :: ·) ih
theorem tx_ne {l : List Bs} (h : l ≠ []) (hn : ∀ x ∈ l, nm x = true) : tx l ≠ [] := by
  cases l with
  | nil => exact absurd rfl h
  | cons a r =>
    intro e
    have := nm_ne (hn a (by simp))
    simp [tx] at e
    exact this e.1
theorem parse_tx {l : List Bs} (h : right l = true) : parse (tx l) = (l, 0) := by
  obtain ⟨h1, h2, h3⟩ := right_iff.1 h
  by_cases e : l = []
  · subst e; rfl
  · unfold parse
    rw [if_neg (tx_ne e h1), spl_tx e h1, if_pos (List.all_eq_true.2 h1), rise_of h2 (fun _ => Iff.rfl), bound, h3]
    rfl
theorem right_small {l : List Bs} (h : right l = true) : l.length ≤ 8 ∧ (tx l).length ≤ 60 := by
  have := (right_iff.1 h).2.2
  simp only [many, Bool.or_eq_false_iff, decide_eq_false_iff_not, Nat.not_lt] at this
  exact this
theorem print_right {l : List Bs} (h : right l = true) : print l = (tx l, 0) := by
  unfold right at h; simp at h; simp [print, h]
end Go.Proofs.YtpidmpefodnffaaGreatDoor
namespace Go.Proofs.YtpidmpefodnffaaGreatDoor
open Go.RowKit
set_option maxHeartbeats 2000000 in
theorem isSign_any (c : UInt8) (w : World) : Calls Tryz.prog 172 #[.int .u8 (c.toNat : Int)] w fun e w' => e = .returned (.bool (sg c)) ∧ w' = w := by
  have hc := c.toNat_lt
  unfold sg
  generalize c.toNat = n at *
  go_enter Tryz.func172, Tryz.ntmps172
  go_wp2
  all_goals go_ret
  all_goals refine ⟨ret_bool ?_, rfl⟩
  all_goals (rw [Bool.eq_iff_iff]; simp; try omega)
theorem ba_len (s : Bs) : (ByteArray.mk s.toArray).size = s.length := by simp [ByteArray.size]
theorem all_no (P : UInt8 → Bool) (s : Bs) (k : Nat) (h : k < s.length) (hp : P s[k] = false) : s.all P = false := by
  rw [Bool.eq_false_iff]
  intro q
  rw [List.all_eq_true] at q
  rw [q _ (List.getElem_mem h)] at hp
  cases hp
theorem take_snocS {α : Type} (l : List α) (k : Nat) (h : k < l.length) : l.take (k + 1) = l.take k ++ [l[k]] := List.take_succ_eq_append_getElem h
set_option maxHeartbeats 4000000 in
set_option maxRecDepth 8000 in
theorem isName_any (s : Bs) (w : World) (hs : s.length ≤ 9223372036854775807) : Calls Tryz.prog 166 #[S s] w fun e w' => e = .returned (.bool (nm s)) ∧ w' = w := by
  by_cases h0 : s.length = 0
  · have := List.eq_nil_of_length_eq_zero h0
    subst this
    go_enter Tryz.func166, Tryz.ntmps166
    go_wp2
    go_ret
    exact ⟨ret_bool rfl, rfl⟩
  · have i0 : ((s.length : Int) == 0) = false := by rw [beq_eq_false_iff_ne]; omega
    by_cases h1 : s.length ≤ 16
    · have i1 : decide (16 < (s.length : Int)) = false := by simp; omega
      go_enter Tryz.func166, Tryz.ntmps166
      go_wp2
      go_loop [14] (fun i => ∃ k : Nat, k ≤ s.length ∧ i = .int .i64 k ∧ (s.take k).all sg = true) (fun i => s.length - (Go.RowKit.intOf i).toNat)
      case atStart => exact ⟨0, by omega, rfl, by simp⟩
      case round =>
        obtain ⟨k, hk, rfl, ha⟩ := hrel
        by_cases hlt : k < s.length
        · have hsz : k < (ByteArray.mk s.toArray).size := by simpa [ByteArray.size] using hlt
          have hC : (ByteArray.mk s.toArray)[k]'hsz = s[k] := rfl
          have hA := hide ha
          have hT := hide (take_snocS s k hlt)
          have hE := hide (all_no sg s k hlt)
          have hklt : (k : Int) < (s.length : Int) := by omega
          have HQ := hide (fun W => isSign_any s[k] W)
          clear ha
          generalize s[k] = c at *
          by_cases hp : sg c = true
          · rw [hp] at HQ
            have hR := hide (show (s.take (k + 1)).all sg = true by rw [unhide hT]; simp [unhide hA, hp])
            clear hT hp hE
            go_wp2_with (go_at_call 172; refine (unhide HQ _).mono ?_; rintro e w' ⟨rfl, rfl⟩)
            go_round
            case rel => exact ⟨k + 1, by omega, by go_num, unhide hR⟩
            case measure => simp [Go.RowKit.intOf]; omega
          · have hp' : sg c = false := by simpa using hp
            rw [hp'] at HQ
            have hF := hide (unhide hE hp')
            clear hp hp' hE hT hA
            go_wp2_with (go_at_call 172; refine (unhide HQ _).mono ?_; rintro e w' ⟨rfl, rfl⟩)
            go_ret
            exact ⟨ret_bool (by simp [nm, unhide hF]), rfl⟩
        · have e : s.take k = s := List.take_of_length_le (by omega)
          rw [e] at ha
          have hA := hide ha
          have hklt : ¬ (k : Int) < (s.length : Int) := by omega
          clear ha e
          go_wp2
          go_ret
          exact ⟨ret_bool (by simp [nm, unhide hA, h1]; omega), rfl⟩
    · have i1 : decide (16 < (s.length : Int)) = true := by simp; omega
      go_enter Tryz.func166, Tryz.ntmps166
      go_wp2
      go_ret
      exact ⟨ret_bool (by simp [nm, h1]), rfl⟩
end Go.Proofs.YtpidmpefodnffaaGreatDoor
