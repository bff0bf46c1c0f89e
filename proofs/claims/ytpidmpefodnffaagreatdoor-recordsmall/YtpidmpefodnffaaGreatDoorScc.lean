import Derived.Test.YtpidmpefodnffaaGreatDoorScb
namespace Go.Proofs.YtpidmpefodnffaaGreatDoor
open Go.RowKit Go.Lib
theorem tl_names {l : List Bs} (h : ∀ x ∈ l, nm x = true) : (tl l).length ≤ 17 * l.length := by
  induction l with
  | nil => simp [tl]
  | cons a r ih =>
    have h1 := ih fun x hx => h x (by simp [hx])
    have h2 := h a (by simp)
    simp only [nm, Bool.and_eq_true, decide_eq_true_eq] at h2
    simp only [tl, List.length_cons, List.length_append]
    omega
theorem tx_names {l : List Bs} (h : ∀ x ∈ l, nm x = true) (hn : l.length ≤ 8) : (tx l).length ≤ 140737488355000 := by
  have := tl_names h
  rw [tx_tl]
  omega
def tm (l : List Bs) : Nat := if many l then 61 else 0
set_option maxHeartbeats 4000000 in
set_option maxRecDepth 8000 in
theorem tooMany_any (a : Option Addr) (n cap : Nat) (l : List Bs) (w : World) (hp : Sts w a n l) (hn : n ≤ 140737488355000) (hl : n ≤ 8 → (tx l).length ≤ 140737488355000) :
    Calls Tryz.prog 167 #[.slice a n cap] w fun e w' => e = .returned (.int .i64 (tm l : Int)) ∧ Below w.heap.size w w' := by
  have hnl := hp.1
  by_cases h8 : n ≤ 8
  · have HT := hide (text_any a n cap l w hp (hl h8) hn)
    have i8 : decide (8 < (n : Int)) = false := by simp; omega
    have hm : tm l = if 60 < (tx l).length then 61 else 0 := by
      unfold tm many
      rw [show decide (8 < l.length) = false by simp; omega]
      simp
    have hh := hl h8
    rw [hm]
    clear hm hp hl hnl
    generalize tx l = t at *
    by_cases h6 : 60 < t.length
    · rw [if_pos h6]
      have i6 : decide (60 < (t.length : Int)) = true := by simp; omega
      go_enter Tryz.func167, Tryz.ntmps167
      go_wp2_with fail
      refine (unhide HT).mono ?_
      rintro e w2 ⟨rfl, b2⟩
      have HB := hide b2
      clear b2
      go_wp2
      go_ret
      exact ⟨rfl, unhide HB⟩
    · rw [if_neg h6]
      have i6 : decide (60 < (t.length : Int)) = false := by simp; omega
      go_enter Tryz.func167, Tryz.ntmps167
      go_wp2_with fail
      refine (unhide HT).mono ?_
      rintro e w2 ⟨rfl, b2⟩
      have HB := hide b2
      clear b2
      go_wp2
      go_ret
      exact ⟨rfl, unhide HB⟩
  · have hm : tm l = 61 := by
      unfold tm many
      rw [show decide (8 < l.length) = true by simp; omega]
      rfl
    rw [hm]
    have i8 : decide (8 < (n : Int)) = true := by simp; omega
    clear hm hp hl hnl
    go_enter Tryz.func167, Tryz.ntmps167
    go_wp2
    go_ret
    exact ⟨rfl, Below.refl _ _⟩
/-! ### Why a list is no scope -/
def okl (l : List Bs) : Bool := l.all nm && up l
theorem wr_eq (l : List Bs) : wr l = if okl l then tm l else 60 := rfl
theorem okl_iff {l : List Bs} : okl l = true ↔ (∀ x ∈ l, nm x = true) ∧ Rs l := by
  unfold okl
  rw [Bool.and_eq_true, up_iff, List.all_eq_true]
theorem okl_step {l : List Bs} (k : Nat) (hk : k < l.length) (h : okl (l.take k) = true) (h1 : nm (l.getD k []) = true) (h2 : 0 < k → l.getD (k - 1) [] < l.getD k []) : okl (l.take (k + 1)) = true := by
  obtain ⟨h3, h4⟩ := okl_iff.1 h
  rw [take_snocS l k hk]
  have e : l.getD k [] = l[k] := by simp [hk]
  rw [e] at h1 h2
  refine okl_iff.2 ⟨fun x hx => ?_, List.pairwise_append.2 ⟨h4, by simp, fun a ha b hb => ?_⟩⟩
  · rcases List.mem_append.1 hx with q | q
    · exact h3 x q
    · rw [List.mem_singleton.1 q]; exact h1
  · rw [List.mem_singleton.1 hb]
    obtain ⟨i, hi, rfl⟩ := List.getElem_of_mem ha
    rw [List.length_take] at hi
    rw [List.getElem_take]
    have h5 := h2 (by omega)
    have e2 : l.getD (k - 1) [] = l[k - 1] := by simp [show k - 1 < l.length by omega]
    rw [e2] at h5
    rcases Nat.lt_or_ge i (k - 1) with q | q
    · have h6 := List.pairwise_iff_getElem.1 h4 i (k - 1) (by rw [List.length_take]; omega) (by rw [List.length_take]; omega) q
      rw [List.getElem_take, List.getElem_take] at h6
      exact lt_trans' h6 h5
    · have : i = k - 1 := by omega
      subst this
      exact h5
theorem okl_nm {l : List Bs} (k : Nat) (hk : k < l.length) (h : nm (l.getD k []) = false) : okl l = false := by
  rw [Bool.eq_false_iff]
  intro q
  have e : l.getD k [] = l[k] := by simp [hk]
  rw [e, (okl_iff.1 q).1 _ (List.getElem_mem hk)] at h
  cases h
theorem okl_up {l : List Bs} (k : Nat) (hk : k < l.length) (h0 : 0 < k) (h : ¬ l.getD (k - 1) [] < l.getD k []) : okl l = false := by
  rw [Bool.eq_false_iff]
  intro q
  apply h
  have e : l.getD k [] = l[k] := by simp [hk]
  have e2 : l.getD (k - 1) [] = l[k - 1] := by simp [show k - 1 < l.length by omega]
  rw [e, e2]
  exact List.pairwise_iff_getElem.1 (okl_iff.1 q).2 (k - 1) k (by omega) hk (by omega)
theorem less_eq : ∀ (x y : List UInt8), Op.bytesLess x y = decide (x < y)
  | [], [] => by simp [Op.bytesLess]
  | [], _ :: _ => by simp [Op.bytesLess]
  | _ :: _, [] => by simp [Op.bytesLess]
  | a :: x, b :: y => by
    rw [Op.bytesLess, less_eq x y, Bool.eq_iff_iff]
    simp [List.cons_lt_cons_iff]
theorem run_leq (x y : Bs) (W : World) : (binOp .leq 9 (S x) (S y)).run Tryz.prog W = .ok (.bool (decide (¬ y < x))) W := by
  have e : (Op.bytesLess (ByteArray.mk x.toArray).toList (ByteArray.mk y.toArray).toList || (ByteArray.mk x.toArray).toList == (ByteArray.mk y.toArray).toList) = decide (¬ y < x) := by
    have e1 : ∀ z : Bs, (ByteArray.mk z.toArray).toList = z := fun z => by simp [ByteArray.toList_eq]
    rw [e1, e1, less_eq, Bool.eq_iff_iff]
    simp only [Bool.or_eq_true, decide_eq_true_eq, beq_iff_eq]
    constructor
    · rintro (h | rfl) h2
      · exact lt_irrefl' _ (lt_trans' h h2)
      · exact lt_irrefl' _ h2
    · intro h
      rcases Decidable.em (x = y) with q | q
      · exact .inr q
      · exact .inl (lt_total' h (fun e => q e.symm))
  rw [← e]
  simp [binOp, Op.stringOp]
def Lns (l : List Bs) : Prop := ∀ j, (l.getD j []).length ≤ 9223372036854775807
set_option maxHeartbeats 8000000 in
set_option maxRecDepth 8000 in
theorem wrong_any (a : Option Addr) (n cap : Nat) (l : List Bs) (w : World) (hp : Sts w a n l) (hn : n ≤ 140737488355000) (hL : Lns l) :
    Calls Tryz.prog 157 #[.slice a n cap] w fun e w' => e = .returned (.int .i64 (wr l : Int)) ∧ Below w.heap.size w w' := by
  have HP := hide hp
  have HN := hide hp.1
  clear hp
  go_enter Tryz.func157, Tryz.ntmps157
  go_wp2
  go_loop [7] (fun i => ∃ k : Nat, k ≤ n ∧ i = .int .i64 k ∧ okl (l.take k) = true) (fun i => n - (Go.RowKit.intOf i).toNat)
  case atStart => exact ⟨0, by omega, rfl, rfl⟩
  case round =>
    obtain ⟨k, hk, rfl, hok⟩ := hrel
    by_cases hlt : k < n
    · obtain ⟨p, o, rfl, hpl, hc0⟩ := (unhide HP).at hlt
      have hkl : k < l.length := by have := unhide HN; omega
      have HOK := hide hok
      have hlt' : (k : Int) < (n : Int) := by omega
      have HNM := hide (isName_any (l.getD k []) w (hL k))
      have HNO := hide (okl_nm k hkl)
      have HST := hide (okl_step k hkl hok)
      clear hok
      by_cases h0 : k = 0
      · subst h0
        rw [Nat.add_zero] at hc0
        have h0' : decide ((0 : Int) < 0) = false := rfl
        generalize l.getD 0 [] = x at *
        cases hx : nm x
        · rw [hx] at HNM
          have HR := hide (unhide HNO hx)
          clear HNO HST HOK hx
          go_wp2_with (first | (go_at_call 166; refine (unhide HNM).mono ?_; rintro e w2 ⟨rfl, rfl⟩))
          go_ret
          exact ⟨by rw [wr_eq, unhide HR]; rfl, Below.refl _ _⟩
        · rw [hx] at HNM
          have HR := hide (unhide HST hx (fun h => absurd h (Nat.lt_irrefl 0)))
          clear HNO HST HOK hx
          go_wp2_with (first | (go_at_call 166; refine (unhide HNM).mono ?_; rintro e w2 ⟨rfl, rfl⟩))
          go_round
          case rel => exact ⟨1, by omega, by go_num, unhide HR⟩
          case measure => simp [Go.RowKit.intOf]; omega
      · obtain ⟨k, rfl⟩ : ∃ m, k = m + 1 := ⟨k - 1, by omega⟩
        have h0' : decide ((0 : Int) < ((k + 1 : Nat) : Int)) = true := by rw [decide_eq_true_eq]; omega
        obtain ⟨p', o', e1, _, hc1⟩ := (unhide HP).at (show k < n by omega)
        cases e1
        have HUP := hide (okl_up (k + 1) hkl (by omega))
        rw [Nat.add_sub_cancel] at HUP HST
        generalize l.getD (k + 1) [] = x at *
        generalize l.getD k [] = y at *
        cases hx : nm x
        · rw [hx] at HNM
          have HR := hide (unhide HNO hx)
          clear HNO HST HOK hx HUP
          go_wp2_with (first | (go_at_call 166; refine (unhide HNM).mono ?_; rintro e w2 ⟨rfl, rfl⟩))
          go_ret
          exact ⟨by rw [wr_eq, unhide HR]; rfl, Below.refl _ _⟩
        · rw [hx] at HNM
          have HR := hide (unhide HST hx)
          have hq := run_leq x y w
          clear HNO HST HOK hx
          by_cases hxy : y < x
          · rw [show decide (¬ y < x) = false by simp [hxy]] at hq
            have HR2 := hide (unhide HR (fun _ => hxy))
            clear HR HUP hxy
            go_wp2_with (first | (go_at_call 166; refine (unhide HNM).mono ?_; rintro e w2 ⟨rfl, rfl⟩))
            go_round
            case rel => exact ⟨k + 1 + 1, by omega, by go_num, unhide HR2⟩
            case measure => simp [Go.RowKit.intOf]; omega
          · rw [show decide (¬ y < x) = true by simp [hxy]] at hq
            have HR2 := hide (unhide HUP hxy)
            clear HR HUP hxy
            go_wp2_with (first | (go_at_call 166; refine (unhide HNM).mono ?_; rintro e w2 ⟨rfl, rfl⟩))
            go_ret
            exact ⟨by rw [wr_eq, unhide HR2]; rfl, Below.refl _ _⟩
    · have hd : ¬ (k : Int) < (n : Int) := by omega
      have e : l.take k = l := List.take_of_length_le (by have := unhide HN; omega)
      rw [e] at hok
      have HT := hide (tooMany_any a n cap l w (unhide HP) hn (fun h8 => tx_names (okl_iff.1 hok).1 (by have := unhide HN; omega)))
      have HOK := hide hok
      clear hok e
      go_wp2_with fail
      refine (unhide HT).mono ?_
      rintro e w2 ⟨rfl, b2⟩
      have HB := hide b2
      clear b2
      go_wp2
      go_ret
      exact ⟨by rw [wr_eq, unhide HOK]; rfl, unhide HB⟩
end Go.Proofs.YtpidmpefodnffaaGreatDoor
