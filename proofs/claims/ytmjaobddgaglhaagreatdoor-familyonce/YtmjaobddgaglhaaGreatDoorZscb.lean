import Derived.Test.YtmjaobddgaglhaaGreatDoorZdsa
import Derived.Test.YtmjaobddgaglhaaGreatDoorShla
namespace Go.Proofs.YtmjaobddgaglhaaGreatDoor
open Go.RowKit Go.Lib
theorem blk_lt {w : World} {p o : Nat} {v : Value} (h : w.cell? ⟨p, o, none⟩ = some v) : p < w.heap.size := by
  rcases Nat.lt_or_ge p w.heap.size with h' | h'
  · exact h'
  · simp [World.cell?, Array.getElem?_eq_none h'] at h
/-- Texts, one behind the other in memory. -/
def Sts (w : World) (a : Option Addr) (n : Nat) (l : List Bs) : Prop :=
  n = l.length ∧ (0 < n → ∃ p o, a = some ⟨p, o, none⟩ ∧ ∀ j, j < n → w.cell? ⟨p, o + j, none⟩ = some (S (l.getD j [])))
theorem Sts.at {w : World} {a : Option Addr} {n : Nat} {l : List Bs} (h : Sts w a n l) {j : Nat} (hj : j < n) : ∃ p o, a = some ⟨p, o, none⟩ ∧ p < w.heap.size ∧ w.cell? ⟨p, o + j, none⟩ = some (S (l.getD j [])) := by
  obtain ⟨p, o, e, hc⟩ := h.2 (by omega)
  exact ⟨p, o, e, blk_lt (hc j hj), hc j hj⟩
theorem Sts.nil (w : World) (a : Option Addr) : Sts w a 0 [] := ⟨rfl, fun h => absurd h (Nat.lt_irrefl 0)⟩
theorem Sts.below {w w' : World} {a : Option Addr} {n : Nat} {l : List Bs} (h : Sts w a n l) (hb : Below w.heap.size w w') : Sts w' a n l := by
  refine ⟨h.1, fun hn => ?_⟩
  obtain ⟨p, o, e, hc⟩ := h.2 hn
  exact ⟨p, o, e, fun j hj => (hb.cell (by exact blk_lt (hc j hj))).trans (hc j hj)⟩
/-! ### The text of names -/
theorem tl_append (u v : List Bs) : tl (u ++ v) = tl u ++ tl v := by
  induction u with
  | nil => rfl
  | cons a r ih => simp [tl, ih]
theorem tx_snoc (u : List Bs) (x : Bs) (h : u ≠ []) : tx (u ++ [x]) = tx u ++ [32] ++ x := by
  cases u with
  | nil => exact absurd rfl h
  | cons a r => simp [tx, tl_append, tl]
theorem tx_one (x : Bs) : tx [x] = x := by simp [tx, tl]
theorem tx_le (l : List Bs) (k : Nat) : (tx (l.take k)).length ≤ (tx l).length := by
  have := tl_len (List.take_sublist k l)
  rw [tx_tl, tx_tl]
  omega
theorem tx_step (l : List Bs) (k : Nat) (h : k < l.length) (h0 : 0 < k) : tx (l.take (k + 1)) = tx (l.take k) ++ [32] ++ l.getD k [] := by
  rw [take_snocS l k h, tx_snoc _ _ (by intro e; have := congrArg List.length e; rw [List.length_take] at this; simp only [List.length_nil] at this; omega)]
  simp [h]
theorem tx_first (l : List Bs) (h : 0 < l.length) : tx (l.take 1) = l.getD 0 [] := by
  rw [take_snocS l 0 h]
  simp [tx_one, h]
def Bd (B b : Nat) (l : Bs) (w : World) : Prop := IsBuilderF 205 5 B b (byteCells l) w
theorem write_any (B b : Nat) (acc s : Bs) (w : World) (h : Bd B b acc w) (hl : acc.length + s.length ≤ 140737488355328) (hB : B ≤ w.heap.size) :
    Calls Tryz.prog 152 #[(.pointer (some ⟨b, 0, none⟩) : Value), S s] w fun e w' => e = .returned (.tuple #[.int .i64 s.length, .nilIface]) ∧ Bd B b (acc ++ s) w' ∧ Below B w w' := by
  have hbc : (byteCells acc).length = acc.length := by simp [byteCells]
  refine (Tryz.Builder_WriteString_k B b (byteCells acc) ⟨s.toArray⟩ w h (by rw [hbc, ba_len]; exact hl) hB).mono ?_
  rintro e w' ⟨rfl, h1, h2, h3⟩
  refine ⟨by rw [ba_len], ?_, h2⟩
  unfold Bd
  have e : byteCells (acc ++ s) = byteCells acc ++ strCells ⟨s.toArray⟩ := by
    simp [byteCells, strCells]
  rw [e]
  exact .inr h1
theorem byte_any (B b : Nat) (acc : Bs) (w : World) (h : Bd B b acc w) (hl : acc.length + 1 ≤ 140737488355328) (hB : B ≤ w.heap.size) :
    Calls Tryz.prog 172 #[(.pointer (some ⟨b, 0, none⟩) : Value), .int .u8 32] w fun e w' => e = .returned .nilIface ∧ Bd B b (acc ++ [32]) w' ∧ Below B w w' := by
  have hbc : (byteCells acc).length = acc.length := by simp [byteCells]
  refine (Tryz.Builder_WriteByte_k B b (byteCells acc) 32 w h (by rw [hbc]; exact hl) hB).mono ?_
  rintro e w' ⟨rfl, h1, h2, h3⟩
  refine ⟨rfl, ?_, h2⟩
  unfold Bd
  have e : byteCells (acc ++ [32]) = byteCells acc ++ [.int .u8 32] := by
    simp [byteCells]
  rw [e]
  exact .inr h1
set_option maxHeartbeats 8000000 in
set_option maxRecDepth 8000 in
theorem text_any (a : Option Addr) (n cap : Nat) (l : List Bs) (w : World) (hp : Sts w a n l) (hl : (tx l).length ≤ 140737488355000) (hn : n ≤ 140737488355000) :
    Calls Tryz.prog 166 #[.slice a n cap] w fun e w' => e = .returned (S (tx l)) ∧ Below w.heap.size w w' := by
  have hb0 : Below w.heap.size w (w.alloc (.cells #[.pointer none, .slice none 0 0] 205)) := (Below.refl _ w).alloc (Nat.le_refl _) _
  have HB := hide (show Bd w.heap.size w.heap.size [] (w.alloc (.cells #[.pointer none, .slice none 0 0] 205)) from IsBuilderF.of (fresh_isBuilder 205 5 w))
  have HB0 := hide hb0
  have HP := hide hp
  have HN := hide hp.1
  have hz0 : w.heap.size < (w.alloc (.cells #[.pointer none, .slice none 0 0] 205)).heap.size := by simp
  clear hp hb0
  go_enter Tryz.func166, Tryz.ntmps166
  go_wp2
  go_loopw [8] (fun i wr => ∃ k : Nat, k ≤ n ∧ i = .int .i64 k ∧ Bd w.heap.size w.heap.size (tx (l.take k)) wr ∧ Below w.heap.size w wr ∧ w.heap.size < wr.heap.size) (fun i _ => n - (Go.RowKit.intOf i).toNat)
  case atStart => exact ⟨0, by omega, rfl, by simpa [tx] using unhide HB, unhide HB0, hz0⟩
  case round =>
    obtain ⟨k, hk, rfl, hbd, hbr, hsz⟩ := hrel
    clear HB HB0 hz0
    have hle := tx_le l k
    by_cases hlt : k < n
    · obtain ⟨p, o, rfl, hpl, hc0⟩ := ((unhide HP).below hbr).at hlt
      have hkl : k < l.length := by have := unhide HN; omega
      have hl2 := tx_le l (k + 1)
      have HB1 := hide hbd
      have HR1 := hide hbr
      have hlt' : (k : Int) < (n : Int) := by omega
      clear hbd hbr
      by_cases h0 : k = 0
      · subst h0
        have HT := hide (tx_first l hkl)
        rw [unhide HT] at hl2
        rw [Nat.add_zero] at hc0
        have HB1' := hide (show Bd w.heap.size w.heap.size [] wr by simpa [tx] using unhide HB1)
        generalize l.getD 0 [] = x at *
        go_wp2_with fail
        refine (write_any w.heap.size w.heap.size [] x wr (unhide HB1') (by simp; omega) (by omega)).mono ?_
        rintro e w2 ⟨rfl, q1, q2⟩
        have HB2 := hide q1
        have HW2 := hide ((unhide HR1).trans q2)
        have hz2 : w.heap.size < w2.heap.size := by have := q2.size; omega
        clear q1 q2
        go_wp2
        refine ⟨⟨1, by omega, by go_num, by rw [unhide HT]; exact unhide HB2, unhide HW2, hz2⟩, ?_⟩
        simp [Go.RowKit.intOf]; omega
      · have HT := hide (tx_step l k hkl (by omega))
        rw [unhide HT, List.length_append, List.length_append] at hl2
        generalize l.getD k [] = x at *
        generalize tx (l.take k) = ACC at *
        have h0' : (0 : Int) < (k : Int) := by omega
        simp only [List.length_cons, List.length_nil] at hl2
        go_wp2_with fail
        refine (byte_any w.heap.size w.heap.size ACC wr (unhide HB1) (by omega) (by omega)).mono ?_
        rintro e w1 ⟨rfl, q1, q2⟩
        have HB2 := hide q1
        have HW2 := hide ((unhide HR1).trans q2)
        have hz2 : w.heap.size < w1.heap.size := by have := q2.size; omega
        clear q1 q2 HB1 HR1
        go_wp2_with fail
        refine (write_any w.heap.size w.heap.size (ACC ++ [32]) x w1 (unhide HB2) (by simp; omega) (by omega)).mono ?_
        rintro e w2 ⟨rfl, q1, q2⟩
        have HB3 := hide q1
        have HW3 := hide ((unhide HW2).trans q2)
        have hz3 : w.heap.size < w2.heap.size := by have := q2.size; omega
        clear q1 q2
        go_wp2
        refine ⟨⟨k + 1, by omega, by go_num, by rw [unhide HT]; exact unhide HB3, unhide HW3, hz3⟩, ?_⟩
        simp [Go.RowKit.intOf]; omega
    · have hd : decide (k < n) = false := by simp; omega
      have e : l.take k = l := List.take_of_length_le (by have := unhide HN; omega)
      rw [e] at hbd
      have HB1 := hide hbd
      have HR1 := hide hbr
      clear hbd hbr e
      go_wp2_with fail
      refine (Tryz.Builder_String_any_k w.heap.size w.heap.size (tx l) wr (unhide HB1) (by omega)).mono ?_
      rintro e w2 ⟨rfl, _, b2, _⟩
      have HW := hide ((unhide HR1).trans b2)
      go_wp2
      go_ret
      exact ⟨rfl, unhide HW⟩
end Go.Proofs.YtmjaobddgaglhaaGreatDoor
namespace Go.Proofs.YtmjaobddgaglhaaGreatDoor
open Go.RowKit Go.Lib
theorem tl_names {l : List Bs} (h : ∀ x ∈ l, nm x = true) : (tl l).length ≤ 17 * l.length := by
  induction l with
  | nil => simp [tl]
  | cons a r ih =>
    have h1 := ih fun x hx => h x (by simp [hx])
    have h2 := h a (by simp)
    simp only [nm, Bool.and_eq_true, decide_eq_true_eq] at h2
    simp only [tl, List.length_cons, List.length_append]
    omega
theorem tx_names {l : List Bs} (h : ∀ x ∈ l, nm x = true) (hn : l.length ≤ 8) : (tx l).length ≤ 140737488355000 := by
  have := tl_names h
  rw [tx_tl]
  omega
def tm (l : List Bs) : Nat := if many l then 61 else 0
set_option maxHeartbeats 4000000 in
set_option maxRecDepth 8000 in
theorem tooMany_any (a : Option Addr) (n cap : Nat) (l : List Bs) (w : World) (hp : Sts w a n l) (hn : n ≤ 140737488355000) (hl : n ≤ 8 → (tx l).length ≤ 140737488355000) :
    Calls Tryz.prog 155 #[.slice a n cap] w fun e w' => e = .returned (.int .i64 (tm l : Int)) ∧ Below w.heap.size w w' := by
  have hnl := hp.1
  by_cases h8 : n ≤ 8
  · have HT := hide (text_any a n cap l w hp (hl h8) hn)
    have i8 : decide (8 < (n : Int)) = false := by simp; omega
    have hm : tm l = if 60 < (tx l).length then 61 else 0 := by
      unfold tm many
      rw [show decide (8 < l.length) = false by simp; omega]
      simp
    have hh := hl h8
    rw [hm]
    clear hm hp hl hnl
    generalize tx l = t at *
    by_cases h6 : 60 < t.length
    · rw [if_pos h6]
      have i6 : decide (60 < (t.length : Int)) = true := by simp; omega
      go_enter Tryz.func155, Tryz.ntmps155
      go_wp2_with fail
      refine (unhide HT).mono ?_
      rintro e w2 ⟨rfl, b2⟩
      have HB := hide b2
      clear b2
      go_wp2
      go_ret
      exact ⟨rfl, unhide HB⟩
    · rw [if_neg h6]
      have i6 : decide (60 < (t.length : Int)) = false := by simp; omega
      go_enter Tryz.func155, Tryz.ntmps155
      go_wp2_with fail
      refine (unhide HT).mono ?_
      rintro e w2 ⟨rfl, b2⟩
      have HB := hide b2
      clear b2
      go_wp2
      go_ret
      exact ⟨rfl, unhide HB⟩
  · have hm : tm l = 61 := by
      unfold tm many
      rw [show decide (8 < l.length) = true by simp; omega]
      rfl
    rw [hm]
    have i8 : decide (8 < (n : Int)) = true := by simp; omega
    clear hm hp hl hnl
    go_enter Tryz.func155, Tryz.ntmps155
    go_wp2
    go_ret
    exact ⟨rfl, Below.refl _ _⟩
/-! ### Why a list is no scope -/
def okl (l : List Bs) : Bool := l.all nm && up l
theorem wr_eq (l : List Bs) : wr l = if okl l then tm l else 60 := rfl
theorem okl_iff {l : List Bs} : okl l = true ↔ (∀ x ∈ l, nm x = true) ∧ Rs l := by
  unfold okl
  rw [Bool.and_eq_true, up_iff, List.all_eq_true]
theorem okl_step {l : List Bs} (k : Nat) (hk : k < l.length) (h : okl (l.take k) = true) (h1 : nm (l.getD k []) = true) (h2 : 0 < k → l.getD (k - 1) [] < l.getD k []) : okl (l.take (k + 1)) = true := by
  obtain ⟨h3, h4⟩ := okl_iff.1 h
  rw [take_snocS l k hk]
  have e : l.getD k [] = l[k] := by simp [hk]
  rw [e] at h1 h2
  refine okl_iff.2 ⟨fun x hx => ?_, List.pairwise_append.2 ⟨h4, by simp, fun a ha b hb => ?_⟩⟩
  · rcases List.mem_append.1 hx with q | q
    · exact h3 x q
    · rw [List.mem_singleton.1 q]; exact h1
  · rw [List.mem_singleton.1 hb]
    obtain ⟨i, hi, rfl⟩ := List.getElem_of_mem ha
    rw [List.length_take] at hi
    rw [List.getElem_take]
    have h5 := h2 (by omega)
    have e2 : l.getD (k - 1) [] = l[k - 1] := by simp [show k - 1 < l.length by omega]
    rw [e2] at h5
    rcases Nat.lt_or_ge i (k - 1) with q | q
    · have h6 := List.pairwise_iff_getElem.1 h4 i (k - 1) (by rw [List.length_take]; omega) (by rw [List.length_take]; omega) q
      rw [List.getElem_take, List.getElem_take] at h6
      exact lt_trans' h6 h5
    · have : i = k - 1 := by omega
      subst this
      exact h5
theorem okl_nm {l : List Bs} (k : Nat) (hk : k < l.length) (h : nm (l.getD k []) = false) : okl l = false := by
  rw [Bool.eq_false_iff]
  intro q
  have e : l.getD k [] = l[k] := by simp [hk]
  rw [e, (okl_iff.1 q).1 _ (List.getElem_mem hk)] at h
  cases h
theorem okl_up {l : List Bs} (k : Nat) (hk : k < l.length) (h0 : 0 < k) (h : ¬ l.getD (k - 1) [] < l.getD k []) : okl l = false := by
  rw [Bool.eq_false_iff]
  intro q
  apply h
  have e : l.getD k [] = l[k] := by simp [hk]
  have e2 : l.getD (k - 1) [] = l[k - 1] := by simp [show k - 1 < l.length by omega]
  rw [e, e2]
  exact List.pairwise_iff_getElem.1 (okl_iff.1 q).2 (k - 1) k (by omega) hk (by omega)
theorem less_eq : ∀ (x y : List UInt8), Op.bytesLess x y = decide (x < y)
  | [], [] => by simp [Op.bytesLess]
  | [], _ :: _ => by simp [Op.bytesLess]
  | _ :: _, [] => by simp [Op.bytesLess]
  | a :: x, b :: y => by
    rw [Op.bytesLess, less_eq x y, Bool.eq_iff_iff]
    simp [List.cons_lt_cons_iff]
theorem run_leq (x y : Bs) (W : World) : (binOp .leq 9 (S x) (S y)).run Tryz.prog W = .ok (.bool (decide (¬ y < x))) W := by
  have e : (Op.bytesLess (ByteArray.mk x.toArray).toList (ByteArray.mk y.toArray).toList || (ByteArray.mk x.toArray).toList == (ByteArray.mk y.toArray).toList) = decide (¬ y < x) := by
    have e1 : ∀ z : Bs, (ByteArray.mk z.toArray).toList = z := fun z => by simp [ByteArray.toList_eq]
    rw [e1, e1, less_eq, Bool.eq_iff_iff]
    simp only [Bool.or_eq_true, decide_eq_true_eq, beq_iff_eq]
    constructor
    · rintro (h | rfl) h2
      · exact lt_irrefl' _ (lt_trans' h h2)
      · exact lt_irrefl' _ h2
    · intro h
      rcases Decidable.em (x = y) with q | q
      · exact .inr q
      · exact .inl (lt_total' h (fun e => q e.symm))
  rw [← e]
  simp [binOp, Op.stringOp]
def Lns (l : List Bs) : Prop := ∀ j, (l.getD j []).length ≤ 9223372036854775807
set_option maxHeartbeats 8000000 in
set_option maxRecDepth 8000 in
theorem wrong_any (a : Option Addr) (n cap : Nat) (l : List Bs) (w : World) (hp : Sts w a n l) (hn : n ≤ 140737488355000) (hL : Lns l) :
    Calls Tryz.prog 135 #[.slice a n cap] w fun e w' => e = .returned (.int .i64 (wr l : Int)) ∧ Below w.heap.size w w' := by
  have HP := hide hp
  have HN := hide hp.1
  clear hp
  go_enter Tryz.func135, Tryz.ntmps135
  go_wp2
  go_loop [7] (fun i => ∃ k : Nat, k ≤ n ∧ i = .int .i64 k ∧ okl (l.take k) = true) (fun i => n - (Go.RowKit.intOf i).toNat)
  case atStart => exact ⟨0, by omega, rfl, rfl⟩
  case round =>
    obtain ⟨k, hk, rfl, hok⟩ := hrel
    by_cases hlt : k < n
    · obtain ⟨p, o, rfl, hpl, hc0⟩ := (unhide HP).at hlt
      have hkl : k < l.length := by have := unhide HN; omega
      have HOK := hide hok
      have hlt' : (k : Int) < (n : Int) := by omega
      have HNM := hide (isName_any (l.getD k []) w (hL k))
      have HNO := hide (okl_nm k hkl)
      have HST := hide (okl_step k hkl hok)
      clear hok
      by_cases h0 : k = 0
      · subst h0
        rw [Nat.add_zero] at hc0
        have h0' : decide ((0 : Int) < 0) = false := rfl
        generalize l.getD 0 [] = x at *
        cases hx : nm x
        · rw [hx] at HNM
          have HR := hide (unhide HNO hx)
          clear HNO HST HOK hx
          go_wp2_with (first | (go_at_call 154; refine (unhide HNM).mono ?_; rintro e w2 ⟨rfl, rfl⟩))
          go_ret
          exact ⟨by rw [wr_eq, unhide HR]; rfl, Below.refl _ _⟩
        · rw [hx] at HNM
          have HR := hide (unhide HST hx (fun h => absurd h (Nat.lt_irrefl 0)))
          clear HNO HST HOK hx
          go_wp2_with (first | (go_at_call 154; refine (unhide HNM).mono ?_; rintro e w2 ⟨rfl, rfl⟩))
          go_round
          case rel => exact ⟨1, by omega, by go_num, unhide HR⟩
          case measure => simp [Go.RowKit.intOf]; omega
      · obtain ⟨k, rfl⟩ : ∃ m, k = m + 1 := ⟨k - 1, by omega⟩
        have h0' : decide ((0 : Int) < ((k + 1 : Nat) : Int)) = true := by rw [decide_eq_true_eq]; omega
        obtain ⟨p', o', e1, _, hc1⟩ := (unhide HP).at (show k < n by omega)
        cases e1
        have HUP := hide (okl_up (k + 1) hkl (by omega))
        rw [Nat.add_sub_cancel] at HUP HST
        generalize l.getD (k + 1) [] = x at *
        generalize l.getD k [] = y at *
        cases hx : nm x
        · rw [hx] at HNM
          have HR := hide (unhide HNO hx)
          clear HNO HST HOK hx HUP
          go_wp2_with (first | (go_at_call 154; refine (unhide HNM).mono ?_; rintro e w2 ⟨rfl, rfl⟩))
          go_ret
          exact ⟨by rw [wr_eq, unhide HR]; rfl, Below.refl _ _⟩
        · rw [hx] at HNM
          have HR := hide (unhide HST hx)
          have hq := run_leq x y w
          clear HNO HST HOK hx
          by_cases hxy : y < x
          · rw [show decide (¬ y < x) = false by simp [hxy]] at hq
            have HR2 := hide (unhide HR (fun _ => hxy))
            clear HR HUP hxy
            go_wp2_with (first | (go_at_call 154; refine (unhide HNM).mono ?_; rintro e w2 ⟨rfl, rfl⟩))
            go_round
            case rel => exact ⟨k + 1 + 1, by omega, by go_num, unhide HR2⟩
            case measure => simp [Go.RowKit.intOf]; omega
          · rw [show decide (¬ y < x) = true by simp [hxy]] at hq
            have HR2 := hide (unhide HUP hxy)
            clear HR HUP hxy
            go_wp2_with (first | (go_at_call 154; refine (unhide HNM).mono ?_; rintro e w2 ⟨rfl, rfl⟩))
            go_ret
            exact ⟨by rw [wr_eq, unhide HR2]; rfl, Below.refl _ _⟩
    · have hd : ¬ (k : Int) < (n : Int) := by omega
      have e : l.take k = l := List.take_of_length_le (by have := unhide HN; omega)
      rw [e] at hok
      have HT := hide (tooMany_any a n cap l w (unhide HP) hn (fun h8 => tx_names (okl_iff.1 hok).1 (by have := unhide HN; omega)))
      have HOK := hide hok
      clear hok e
      go_wp2_with fail
      refine (unhide HT).mono ?_
      rintro e w2 ⟨rfl, b2⟩
      have HB := hide b2
      clear b2
      go_wp2
      go_ret
      exact ⟨by rw [wr_eq, unhide HOK]; rfl, unhide HB⟩
end Go.Proofs.YtmjaobddgaglhaaGreatDoor
namespace Go.Proofs.YtmjaobddgaglhaaGreatDoor
open Go.RowKit Go.Lib
theorem Right_any (a : Option Addr) (n cap : Nat) (l : List Bs) (w : World) (hp : Sts w a n l) (hn : n ≤ 140737488355000) (hL : Lns l) :
    Calls Tryz.prog 104 #[.slice a n cap] w fun e w' => e = .returned (.bool (right l)) ∧ Below w.heap.size w w' := by
  have HW := hide (wrong_any a n cap l w hp hn hL)
  have HR : Hid (right l = (wr l == 0)) := hide rfl
  generalize right l = r at *
  generalize wr l = e at *
  clear hp hL
  go_enter Tryz.func104, Tryz.ntmps104
  go_wp2_with fail
  refine (unhide HW).mono ?_
  rintro e w2 ⟨rfl, b2⟩
  have HB := hide b2
  clear b2
  go_wp2
  go_ret
  refine ⟨ret_bool ?_, unhide HB⟩
  rw [unhide HR, Bool.eq_iff_iff]
  simp
theorem Print_any (a : Option Addr) (n cap : Nat) (l : List Bs) (w : World) (hp : Sts w a n l) (hn : n ≤ 140737488355000) (hL : Lns l) :
    Calls Tryz.prog 196 #[.slice a n cap] w fun e w' => e = .returned (.tuple #[S (print l).1, .int .i64 ((print l).2 : Int)]) ∧ Below w.heap.size w w' := by
  have HW := hide (wrong_any a n cap l w hp hn hL)
  by_cases h0 : wr l = 0
  · have hr : right l = true := by unfold right; simp [h0]
    have hs := (right_small hr).2
    have hP : print l = (tx l, 0) := print_right hr
    have HT := hide (fun W h => text_any a n cap l W h (by omega) hn)
    have HP := hide hp
    rw [hP]
    rw [h0] at HW
    generalize tx l = t at *
    clear hp hL hP hr h0
    go_enter Tryz.func196, Tryz.ntmps196
    go_wp2_with fail
    refine (unhide HW).mono ?_
    rintro e w2 ⟨rfl, b2⟩
    have HT2 := hide (unhide HT w2 ((unhide HP).below b2))
    have HB := hide b2
    clear b2 HT
    go_wp2_with fail
    refine (unhide HT2).mono ?_
    rintro e w3 ⟨rfl, b3⟩
    have HB3 := hide ((unhide HB).trans (b3.mono (unhide HB).size))
    clear b3 HB
    go_wp2
    go_ret2
    exact ⟨rfl, unhide HB3⟩
  · have hP : print l = ([], wr l) := by simp [print, h0]
    rw [hP]
    have hi : ((wr l : Int) == 0) = false := by rw [beq_eq_false_iff_ne]; omega
    generalize wr l = e at *
    clear hp hL hP
    go_enter Tryz.func196, Tryz.ntmps196
    go_wp2_with fail
    refine (unhide HW).mono ?_
    rintro e w2 ⟨rfl, b2⟩
    have HB := hide b2
    clear b2
    go_wp2
    go_ret2
    exact ⟨rfl, unhide HB⟩
end Go.Proofs.YtmjaobddgaglhaaGreatDoor
