import Derived.Test.YthlacailhfhjnaaGreatDoorZzad
import Derived.Test.YthlacailhfhjnaaGreatDoorRows
import Derived.Lib.LaidTab
import Derived.WalkKit
import Derived.ProofKit
import Derived.OpenShut
import Derived.ShutString
import Derived.ChangeSame
import Derived.ChangeVars
import Derived.JoinedOf
import Derived.RowKit
import Derived.RowKitTokens
import Derived.LaidLaws
import Derived.LaidHandle
import Derived.Handed
import Derived.Stop.Joined
namespace Go.Proofs.YthlacailhfhjnaaGreatDoor
open Go.RowKit Go.Lib
theorem hd_tl (c : UInt8) (p : List UInt8) : (c ∉ p ∧ hd c p = p ∧ tl c p = []) ∨ (p = hd c p ++ c :: tl c p) := by
  unfold hd tl
  induction p with
  | nil => left; simp
  | cons a p ih =>
    by_cases h : a = c
    · subst h; right; simp
    · rcases ih with ⟨h1, h2, h3⟩ | h2
      · left
        refine ⟨by simp [h1, Ne.symm h], ?_, ?_⟩
        · simp [h, h2]
        · simp [h, h3]
      · right
        have : (!(a == c)) = true := by simp [h]
        rw [List.takeWhile_cons, List.dropWhile_cons, if_pos this, if_pos this, List.cons_append, ← h2]
theorem tl_drop (c : UInt8) (s : List UInt8) (hl : (hd c s).length < s.length) : tl c s = s.drop ((hd c s).length + 1) := by
  rcases hd_tl c s with ⟨_, h1, _⟩ | h
  · rw [h1] at hl; omega
  · have h9 : ∀ (a b : List UInt8), (a ++ c :: b).drop (a.length + 1) = b := fun a b => by
      rw [List.drop_append, List.drop_of_length_le (by omega)]
      simp
    have := h9 (hd c s) (tl c s)
    rw [← h] at this
    exact this.symm
theorem hd_take (c : UInt8) (s : List UInt8) : s.take (hd c s).length = hd c s := by
  rcases hd_tl c s with ⟨_, h1, _⟩ | h
  · rw [h1, List.take_length]
  · have h9 : ∀ (a b : List UInt8), (a ++ c :: b).take a.length = a := fun a b => by simp
    have := h9 (hd c s) (tl c s)
    rw [← h] at this
    exact this
theorem hd_le (c : UInt8) (s : List UInt8) : (hd c s).length ≤ s.length := List.Sublist.length_le (List.takeWhile_sublist _)
theorem indexByte_hd (p : List UInt8) (c : UInt8) : indexByte p c = if (hd c p).length < p.length then ((hd c p).length : Int) else -1 := by
  induction p with
  | nil => simp [indexByte, hd]
  | cons a p ih =>
    unfold indexByte
    by_cases h : a = c
    · subst h
      simp [hd]
    · have h1 : (a == c) = false := by simpa using h
      have h2 : hd c (a :: p) = a :: hd c p := by simp [hd, h]
      rw [h1, ih, h2]
      simp only [Bool.false_eq_true, if_false, List.length_cons]
      split
      · rw [if_neg (by simp), if_pos (by omega)]
        omega
      · rw [if_pos (by simp), if_neg (by omega)]
set_option maxHeartbeats 4000000 in
set_option maxRecDepth 8000 in
theorem cutlite_any (l : List UInt8) (c : UInt8) (w : World) (hl : l.length ≤ 1099511627776) :
    Calls Tryz.prog 98 #[S l, .string ⟨#[c]⟩] w fun e w' => e = .returned (.tuple #[S (hd c l), S (tl c l), .bool (decide ((hd c l).length < l.length))]) ∧ ∃ n, w' = w.drewN n := by
  obtain ⟨X, hX⟩ : ∃ X : ByteArray, X = ⟨l.toArray⟩ := ⟨_, rfl⟩
  have hsz : X.size = l.length := by rw [hX]; simp [ByteArray.size]
  have hdl : X.data.toList = l := by rw [hX]
  have hxe : ∀ a b, X.extract a b = ⟨((l.drop a).take (b - a)).toArray⟩ := by
    intro a b
    subst hX
    rw [extract_eq]
  have HI := hide (Tryz.stringslite_Index_one X c w)
  rw [hdl, indexByte_hd] at HI
  show Calls Tryz.prog 98 #[.string ⟨l.toArray⟩, .string ⟨#[c]⟩] w _
  rw [← hX]
  by_cases hm : (hd c l).length < l.length
  · rw [if_pos hm] at HI
    rw [decide_eq_true hm]
    have e1 : Hid (X.extract 0 (hd c l).length = ⟨(hd c l).toArray⟩) := hide (by rw [hxe, List.drop_zero, Nat.sub_zero, hd_take])
    have e2 : Hid (X.extract ((hd c l).length + 1) l.length = ⟨(tl c l).toArray⟩) := hide (by rw [hxe, tl_drop c l hm, List.take_of_length_le (by simp)])
    generalize hd c l = H at *
    generalize tl c l = T at *
    have i0 : (0 : Int) ≤ (H.length : Int) := by omega
    have i1 : (H.length : Int) ≤ (l.length : Int) := by omega
    have i2 : (0 : Int) ≤ (H.length : Int) + 1 := by omega
    have i3 : (H.length : Int) + 1 ≤ (l.length : Int) := by omega
    clear hxe hdl hX
    go_enter Tryz.func98, Tryz.ntmps98
    go_wp2_with fail
    refine (unhide HI).mono ?_
    rintro e w' ⟨rfl, rfl⟩
    go_wp2_with fail
    go_quiet (fail)
    go_wp2
    go_ret3
    refine ⟨?_, _, rfl⟩
    show Ending.returned (.tuple #[.string (X.extract 0 H.length), .string (X.extract (H.length + 1) l.length), .bool true]) = _
    rw [unhide e1, unhide e2]
  · rw [if_neg hm] at HI
    rw [decide_eq_false hm]
    have hh : hd c l = l ∧ tl c l = [] := by
      rcases hd_tl c l with ⟨_, h1, h2⟩ | h1
      · exact ⟨h1, h2⟩
      · have h2 := congrArg List.length h1
        rw [List.length_append, List.length_cons] at h2
        exact absurd (show (hd c l).length < l.length by omega) hm
    rw [hh.1, hh.2]
    have hX2 := hide hX
    clear hxe hdl hX hh hm
    go_enter Tryz.func98, Tryz.ntmps98
    go_wp2_with fail
    refine (unhide HI).mono ?_
    rintro e w' ⟨rfl, rfl⟩
    go_wp2
    go_ret3
    refine ⟨?_, 0, rfl⟩
    rw [unhide hX2]
    rfl
theorem cut_any (l : List UInt8) (c : UInt8) (w : World) (hl : l.length ≤ 1099511627776) :
    Calls Tryz.prog 75 #[S l, S [c]] w fun e w' => e = .returned (.tuple #[S (hd c l), S (tl c l), .bool (decide ((hd c l).length < l.length))]) ∧ ∃ n, w' = w.drewN n := by
  have H := hide (cutlite_any l c w hl)
  go_enter Tryz.func75, Tryz.ntmps75
  go_wp2_with fail
  refine (unhide H).mono ?_
  rintro e w' ⟨rfl, q, rfl⟩
  go_wp2
  go_ret3
  exact ⟨rfl, q, rfl⟩
theorem clone_any (l : List UInt8) (w : World) (hl : l.length ≤ 281474976710656) : Calls Tryz.prog 44 #[S l] w fun e w' => e = .returned (S l) ∧ Below w.heap.size w w' := by
  go_enter Tryz.func44, Tryz.ntmps44
  go_wp2_with (go_at_call 74; refine (Tryz.stringslite_Clone _ _ (by simp [ByteArray.size]; omega)).mono ?_; rintro e w' ⟨rfl, hb⟩)
  go_ret
  exact ⟨rfl, hb⟩
theorem trim_any (l : List UInt8) (w : World) (hl : l.length ≤ 9223372036854775807) : Calls Tryz.prog 135 #[S l, .string ⟨#[32]⟩] w fun e w' => e = .returned (S (trimB l 32)) ∧ ∃ n, w' = w.drewN n := by
  refine (Tryz.strings_Trim_one ⟨l.toArray⟩ 32 (by decide) w (by rw [ba_size]; exact hl)).mono ?_
  rintro e w' ⟨rfl, h⟩
  refine ⟨rfl, ?_⟩
  rcases h with rfl | rfl
  · exact ⟨0, rfl⟩
  · exact ⟨1, rfl⟩
theorem cutr_any (l : List UInt8) (w : World) (hl : l.length ≤ 9223372036854775807) : Calls Tryz.prog 113 #[S l, .string ⟨#[13]⟩] w fun e w' => e = .returned (.tuple #[S (cutr l), .bool (ret l)]) ∧ w' = w := by
  have h := Tryz.strings_CutSuffix ⟨l.toArray⟩ ⟨#[13]⟩ w (by rw [ba_size]; exact hl)
  rw [ba_list, show (ByteArray.mk #[13]).data.toList = [13] from rfl, suf_one] at h
  have e : trimSuffix l [13] = cutr l := by
    unfold trimSuffix cutr ret
    rw [suf_one]
    split
    · rw [List.dropLast_eq_take]; rfl
    · rfl
  rw [e] at h
  exact h
/-- Digits alone: what they say, or more than a number holds. -/
theorem parse_digits (l : List UInt8) (a : Nat) (hd : ∀ c ∈ l, dgt c = true) : parseUint10 a l = (if vl a l < 18446744073709551616 then .ok (vl a l) else .range) ∨ 18446744073709551616 ≤ a := by
  induction l generalizing a with
  | nil =>
    by_cases h : a < 18446744073709551616
    · left
      unfold parseUint10
      rw [if_pos (show vl a [] < _ from h)]
      rfl
    · right; omega
  | cons c l ih =>
    have hc := hd c List.mem_cons_self
    have hc' : 48 ≤ c.toNat ∧ c.toNat ≤ 57 := by unfold dgt at hc; simpa using hc
    have hm : ∀ (l : List UInt8) (a : Nat), a ≤ vl a l := by
      intro l
      induction l with
      | nil => intro a; exact Nat.le_refl _
      | cons c l ih =>
        intro a
        have := ih (a * 10 + (c.toNat - 48))
        show a ≤ vl (a * 10 + (c.toNat - 48)) l
        omega
    have e : vl a (c :: l) = vl (a * 10 + (c.toNat - 48)) l := rfl
    have h1 := hm l (a * 10 + (c.toNat - 48))
    left
    unfold parseUint10
    rw [if_pos hc', e]
    by_cases h2 : 1844674407370955162 ≤ a
    · rw [if_pos h2, if_neg (by omega)]
    · rw [if_neg h2]
      by_cases h3 : 18446744073709551616 ≤ a * 10 + (c.toNat - 48)
      · rw [if_pos h3, if_neg (by omega)]
      · rw [if_neg h3]
        rcases ih (a * 10 + (c.toNat - 48)) (fun x hx => hd x (List.mem_cons_of_mem _ hx)) with h | h
        · exact h
        · omega
theorem num_dgt {l : Bs} (h : num l = true) : l ≠ [] ∧ ∀ c ∈ l, dgt c = true := by
  unfold num at h
  simp only [Bool.or_eq_true, beq_iff_eq, Bool.and_eq_true, Bool.not_eq_true', beq_eq_false_iff_ne] at h
  rcases h with rfl | ⟨⟨h1, _⟩, h2⟩
  · exact ⟨by simp, by simp; decide⟩
  · exact ⟨h1, List.all_eq_true.1 h2⟩
theorem atoi_num (l : Bs) (h : num l = true) : atoiAll l = if vl 0 l < 9223372036854775808 then .ok (vl 0 l : Int) else .range := by
  obtain ⟨h1, h2⟩ := num_dgt h
  match l, h1, h2 with
  | c :: r, _, h2 =>
    have hc := h2 c List.mem_cons_self
    have hc' : 48 ≤ c.toNat ∧ c.toNat ≤ 57 := by unfold dgt at hc; simpa using hc
    unfold atoiAll
    simp only
    rw [if_neg (by omega)]
    unfold parseMag
    rw [if_neg (by simp)]
    rcases parse_digits (c :: r) 0 h2 with h | h
    · rw [h]
      generalize vl 0 (c :: r) = V
      by_cases hv : V < 18446744073709551616
      · rw [if_pos hv]
        simp only
        have hn : ¬ c.toNat = 45 := by omega
        by_cases h3 : V < 9223372036854775808
        · rw [if_pos h3, if_neg (by omega), if_neg (by omega), if_neg hn]
        · rw [if_neg h3, if_pos ⟨hn, by omega⟩]
      · rw [if_neg hv, if_neg (by omega)]
    · omega
end Go.Proofs.YthlacailhfhjnaaGreatDoor
namespace Go.Proofs.YthlacailhfhjnaaGreatDoor
open Go.RowKit Go.Lib
def opv : Option Fst → Value
  | none => .tuple #[.agg #[S [], S [], .int .i64 0], .bool false]
  | some f => .tuple #[.agg #[S f.m, S f.p, .int .i64 f.s], .bool true]
theorem opM_yes {l : Bs} (h1 : meth (hd 32 l) = true) (h2 : pth (hd 32 (tl 32 l)) = true) (h3 : tl 32 (tl 32 l) = vers) : opM l = some ⟨hd 32 l, hd 32 (tl 32 l), 0⟩ := by
  unfold opM; rw [h1, h2, h3]; rfl
theorem opM_no {l : Bs} (h : meth (hd 32 l) = false ∨ pth (hd 32 (tl 32 l)) = false ∨ tl 32 (tl 32 l) ≠ vers) : opM l = none := by
  unfold opM
  rcases h with h | h | h
  · rw [h]; simp
  · rw [h]; simp
  · rw [if_neg (by simp [h])]
theorem tl_le (c : UInt8) (s : Bs) : (tl c s).length ≤ s.length := by
  unfold tl
  rw [List.length_drop]
  have := List.Sublist.length_le (List.dropWhile_sublist (fun x => !(x == c)) (l := s))
  omega
theorem ret_of {a b : Value} (h : a = b) : Ending.returned b = .returned a := by rw [h]
set_option maxHeartbeats 4000000 in
set_option maxRecDepth 8000 in
theorem messageLine_any (l : Bs) (w : World) (hl : l.length ≤ 1099511627776) : Calls Tryz.prog 47 #[S l] w fun e w' => e = .returned (opv (opM l)) ∧ Below w.heap.size w w' := by
  have g1 := hd_le 32 l
  have g2 := tl_le 32 l
  have g3 := hd_le 32 (tl 32 l)
  have HC1 := hide (fun W => cut_any l 32 W hl)
  have HC2 := hide (fun W => cut_any (tl 32 l) 32 W (by omega))
  have HM := hide (fun W => isMethod_any (hd 32 l) W (by omega))
  have HP := hide (fun W => isPath_any (hd 32 (tl 32 l)) W (by omega))
  have HY := hide (@opM_yes l)
  have HN := hide (@opM_no l)
  generalize opM l = O at *
  generalize tl 32 (tl 32 l) = E at *
  generalize decide ((hd 32 (tl 32 l)).length < (tl 32 l).length) = d2 at *
  generalize hd 32 (tl 32 l) = P at *
  generalize decide ((hd 32 l).length < l.length) = d1 at *
  generalize tl 32 l = T at *
  generalize hd 32 l = M at *
  clear g1 g2 g3
  go_enter Tryz.func47, Tryz.ntmps47
  go_wp2_with fail
  refine (unhide HC1 _).mono ?_
  rintro e w1 ⟨rfl, q1, rfl⟩
  go_wp2_with fail
  refine (unhide HC2 _).mono ?_
  rintro e w1 ⟨rfl, q2, rfl⟩
  generalize meth M = A at *
  generalize pth P = B1 at *
  have fin : ∀ n, Below w.heap.size w ((w.alloc (.cells #[S [], S [], .int .i64 0] 89)).drewN n) := fun n => below_dN ((Below.refl _ _).alloc (Nat.le_refl _) _) _
  cases A
  · have HO := hide (unhide HN (.inl rfl))
    clear HN HY
    go_wp2_with (first | (go_at_call 62; refine (unhide HM _).mono ?_; rintro e w' ⟨rfl, rfl⟩))
    refine bodyPost_ret (v := .tuple #[.agg #[S [], S [], .int .i64 0], .bool false]) (by simp [results, Tryz.results47, go_sem]) rfl ⟨ret_of (by rw [unhide HO]; rfl), ?_⟩
    exact (((fin _).setCell (Nat.le_refl _) _).setCell (Nat.le_refl _) _).setCell (Nat.le_refl _) _
  cases B1
  · have HO := hide (unhide HN (.inr (.inl rfl)))
    clear HN HY
    go_wp2_with (first | (go_at_call 62; refine (unhide HM _).mono ?_; rintro e w' ⟨rfl, rfl⟩) | (go_at_call 63; refine (unhide HP _).mono ?_; rintro e w' ⟨rfl, rfl⟩))
    refine bodyPost_ret (v := .tuple #[.agg #[S [], S [], .int .i64 0], .bool false]) (by simp [results, Tryz.results47, go_sem]) rfl ⟨ret_of (by rw [unhide HO]; rfl), ?_⟩
    exact (((fin _).setCell (Nat.le_refl _) _).setCell (Nat.le_refl _) _).setCell (Nat.le_refl _) _
  by_cases hE : E = vers
  · have HO := hide (unhide HY rfl rfl hE)
    clear HN HY
    subst hE
    go_wp2_with (first | (go_at_call 62; refine (unhide HM _).mono ?_; rintro e w' ⟨rfl, rfl⟩) | (go_at_call 63; refine (unhide HP _).mono ?_; rintro e w' ⟨rfl, rfl⟩))
    refine bodyPost_ret (v := .tuple #[.agg #[S M, S P, .int .i64 0], .bool true]) (by simp [results, Tryz.results47, go_sem]) rfl ⟨ret_of (by rw [unhide HO]; rfl), ?_⟩
    exact (((fin _).setCell (Nat.le_refl _) _).setCell (Nat.le_refl _) _).setCell (Nat.le_refl _) _
  · have HO := hide (unhide HN (.inr (.inr hE)))
    have hE2 : (E == [72, 84, 84, 80, 47, 49, 46, 49]) = false := by simpa [vers] using hE
    clear HN HY
    go_wp2_with (first | (go_at_call 62; refine (unhide HM _).mono ?_; rintro e w' ⟨rfl, rfl⟩) | (go_at_call 63; refine (unhide HP _).mono ?_; rintro e w' ⟨rfl, rfl⟩))
    refine bodyPost_ret (v := .tuple #[.agg #[S [], S [], .int .i64 0], .bool false]) (by simp [results, Tryz.results47, go_sem]) rfl ⟨ret_of (by rw [unhide HO]; rfl), ?_⟩
    exact (((fin _).setCell (Nat.le_refl _) _).setCell (Nat.le_refl _) _).setCell (Nat.le_refl _) _
/-- What the library's variables hold. -/
structure Env (B : Nat) (w : World) : Prop where
  lt : 8 ≤ B
  le : B ≤ w.heap.size
  tab : ∃ T fz, w.heap[1]? = some (.cells (pow10Tab.map fun z => Value.int .u64 z).toArray T fz)
  rng : ∃ t p, w.cell? ⟨3, 0, none⟩ = some (.iface t p)
theorem Env.below {B : Nat} {w w' : World} (h : Env B w) (hb : Below B w w') : Env B w' := by
  obtain ⟨T, fz, h1⟩ := h.tab
  obtain ⟨t, p, h2⟩ := h.rng
  have := h.lt
  exact ⟨h.lt, Nat.le_trans h.le hb.size, ⟨T, fz, (hb.block 1 (by omega)).trans h1⟩, t, p, (hb.cell (by show 3 < B; omega)).trans h2⟩
theorem Env.tabIs {B : Nat} {w : World} (h : Env B w) : PowIs w := by
  obtain ⟨T, fz, h1⟩ := h.tab
  have hs : ((Tryz.prog.globals[1]?).map (fun g => g.name)).isSome = true := by kernel_rfl
  have hb : (((Tryz.prog.globals[1]?).map (fun g => g.name)).bind fun nm => Tryz.prog.globalNamed nm) = some 1 := by kernel_rfl
  obtain ⟨nm, hn⟩ := Option.isSome_iff_exists.1 hs
  rw [hn] at hb
  refine ⟨nm, hn, ?_⟩
  have hg : Tryz.prog.globalNamed nm = some 1 := hb
  unfold TabIs World.var?
  rw [hg]
  simp only [Option.bind_some, h1]
theorem Env.mono {B : Nat} {w : World} (h : Env B w) : Env w.heap.size w := ⟨Nat.le_trans h.lt h.le, Nat.le_refl _, h.tab, h.rng⟩
/-- Atoi of digits: the number, or some error. -/
theorem atoi_ok (l : Bs) (w : World) (hl : l.length ≤ 1099511627776) (hn : num l = true) (hv : vl 0 l < 9223372036854775808) :
    Calls Tryz.prog 97 #[S l] w fun e w' => e = .returned (.tuple #[.int .i64 (vl 0 l : Int), .nilIface]) ∧ Below w.heap.size w w' := by
  have h := atoi_num l hn
  rw [if_pos hv] at h
  refine (Tryz.strconv_Atoi_ok ⟨l.toArray⟩ (by rw [ba_size]; omega) _ (by rw [ba_list]; exact h) w).mono ?_
  rintro e w' ⟨rfl, hw⟩
  refine ⟨rfl, ?_⟩
  rcases hw with rfl | ⟨t, rfl⟩
  · exact Below.refl _ _
  · exact bytesWorld_below _ _ _
theorem atoi_no {B : Nat} (l : Bs) (w : World) (hE : Env B w) (hl : l.length ≤ 1099511627776) (hn : num l = true) (hv : ¬ vl 0 l < 9223372036854775808) :
    Calls Tryz.prog 97 #[S l] w fun e w' => ∃ x t p, e = .returned (.tuple #[.int .i64 x, .iface t p]) ∧ Below w.heap.size w w' := by
  have h := atoi_num l hn
  rw [if_neg hv] at h
  obtain ⟨t, p, hc⟩ := hE.rng
  refine (Tryz.strconv_Atoi_range ⟨l.toArray⟩ (by rw [ba_size]; omega) (by rw [ba_list]; exact h) _ w hc (.inr ⟨t, p, rfl⟩)).mono ?_
  rintro e w' ⟨M, rfl, _, _, hb⟩
  exact ⟨_, _, _, rfl, hb⟩
end Go.Proofs.YthlacailhfhjnaaGreatDoor
namespace Go.Proofs.YthlacailhfhjnaaGreatDoor
open Go.ChangeShapes Go.WideShapes Go.RowKit Go.Lib
theorem own : ownKnob Tryz.prog.godebug = none := by kernel_rfl
def laidL : List (String × DataW Unit) := Rows.wireBackRow.laid
theorem g_rng : Tryz.prog.globalNamed "strconv.ErrRange" = some 3 := by kernel_rfl
theorem t_pow : (Tryz.prog.globals[1]?).map (fun g => g.type) = some 157 := by kernel_rfl
theorem t_rng : (Tryz.prog.globals[3]?).map (fun g => g.type) = some 124 := by kernel_rfl
theorem und157 : Tryz.prog.underlying 157 = some (.array 20 140) := by kernel_rfl
theorem und140 : Tryz.prog.underlying 140 = some (.int .u64) := by kernel_rfl
theorem cel140 : Tryz.prog.cellsOf 140 = 1 := by kernel_rfl
theorem cel157 : Tryz.prog.cellsOf 157 = 20 := by kernel_rfl
theorem pow_eq : (Rows.laid_internal_strconv_uint64pow10 : DataW Unit) = tabData .u64 pow10Tab := by kernel_rfl
theorem var_heap {P : Program} {W : World} {name : String} {cs : Array Value} {g : Nat} (hg : P.globalNamed name = some g) (h : W.var? P name = some cs) : ∃ T fz, W.heap[g]? = some (.cells cs T fz) := by
  unfold World.var? at h
  rw [hg] at h
  simp only [Option.bind_some] at h
  split at h
  · rename_i c T fz hh
    obtain rfl := Option.some.inj h
    exact ⟨T, fz, hh⟩
  · cases h
theorem env_of {W : World} (h : laidMetH Tryz.prog laidL W) : Env W.heap.size W := by
  have h1 : laidMet Tryz.prog laidL W := h
  obtain ⟨ps, ⟨g0, t0, cs0, f0, p0, q0, hg0, ht0, hv0, hd0, ⟨g1, t1, cs1, f1, p1, q1, hg1, ht1, hv1, hd1, ⟨g2, t2, cs2, f2, p2, q2, hg2, ht2, hv2, hd2, ⟨g3, t3, cs3, f3, p3, q3, hg3, ht3, hv3, hd3, ⟨g4, t4, cs4, f4, p4, q4, hg4, ht4, hv4, hd4, hr4, e4⟩, e3⟩, e2⟩, e1⟩, e0⟩, hnd, hrows⟩ := h1
  have k2 : g2 = 1 := Option.some.inj (hg2.symm.trans (by kernel_rfl))
  have k3 : g3 = 7 := Option.some.inj (hg3.symm.trans (by kernel_rfl))
  have k4 : g4 = 3 := Option.some.inj (hg4.symm.trans g_rng)
  subst k2 k3 k4
  have u2 : t2 = 157 := Option.some.inj (ht2.symm.trans t_pow)
  have u4 : t4 = 124 := Option.some.inj (ht4.symm.trans t_rng)
  subst u2 u4
  have c2 := cells_of_tab und157 und140 cel140 cel157 (pow_eq ▸ hd2)
  obtain ⟨T2, z2, x2⟩ := var_heap hg2 hv2
  obtain ⟨T3, z3, x3⟩ := var_heap hg3 hv3
  obtain ⟨T4, z4, x4⟩ := var_heap g_rng hv4
  obtain ⟨f', u, v, c4, _, _⟩ := iface_of_trod Tryz.underlying124 hd4
  obtain ⟨l4⟩ := cs4
  obtain ⟨l2⟩ := cs2
  simp only at c2 c4
  subst c2 c4
  exact ⟨Nat.succ_le_of_lt (Array.getElem?_eq_some_iff.1 x3).1, Nat.le_refl _, ⟨T2, z2, x2⟩, u, v, by simpa using World.var?_cell g_rng hv4 0⟩
/-- The variables as the witness lays them. -/
def flat1 : DataW Unit → List Value
  | .lit (.int k z) => [.int k z]
  | .agg [.lit (.int k z), .lit (.int k' z')] => [.int k z, .int k' z']
  | _ => []
def flat2 : DataW Unit → Array Value
  | .agg l => (l.flatMap flat1).toArray
  | _ => #[]
def putC (cs : Array Value) : Obj → Obj
  | .cells _ t frozen => .cells cs t frozen
  | o => o
def errS : Array Value := #[.iface 176 (.pointer (some ⟨13, 0, none⟩))]
def errR : Array Value := #[.iface 176 (.pointer (some ⟨14, 0, none⟩))]
def synB : Obj := .cells #[.string ⟨#[105, 110, 118, 97, 108, 105, 100, 32, 115, 121, 110, 116, 97, 120]⟩] 178
def rngB : Obj := .cells #[.string ⟨#[118, 97, 108, 117, 101, 32, 111, 117, 116, 32, 111, 102, 32, 114, 97, 110, 103, 101]⟩] 178
theorem wit_met (os : Os) (args : Array Value) : laidMetH Tryz.prog laidL ((({ World.holding Tryz.prog os ⟨#[synB, rngB], #[], []⟩ with heap := (((((((World.holding Tryz.prog os ⟨#[synB, rngB], #[], []⟩).heap.modify 1 (putC (flat2 Rows.laid_internal_strconv_uint64pow10))).modify 2 (putC errS)).modify 3 (putC errR)).modify 4 (putC (flat2 Rows.laid_math_bits_deBruijn32tab))).modify 5 (putC (flat2 Rows.laid_math_bits_deBruijn64tab))).modify 6 (putC (flat2 Rows.laid_unicode_utf8_first))).modify 7 (putC (flat2 Rows.laid_unicode_utf8_acceptRanges)) } : World)).forCall (fun _ _ => 0) ⟨#[], args, []⟩).memory := by
  show laidMet Tryz.prog laidL _
  exact laidMet_of_run' 8 (by kernel_rfl) (by kernel_rfl)
set_option maxRecDepth 20000 in
/-- The frame of a law's proof, with the tables of the world. -/
theorem lift {L : List (String × DataW Unit)} (hL : L = laidL) {H : Type} {enc : TypeId × Value → H} {os : Os} {f : FuncId} {fn : Func} {s : ChangeSpec} (started : os.Started) (noInit : Tryz.checked.prog.inits.idxOf? f = none) (hfn : Tryz.checked.prog.funcs[f]? = some fn)
    (witness : ∃ (w : World) (tape : Tape) (i : Input), w.os = os ∧ (w.forCall tape i).Shaped Tryz.checked.prog ∧ i.vars = [] ∧ Input.okWide Tryz.checked.prog (w.forCall tape i) .any w.heap.size f i ∧
      ((s.pre enc Tryz.checked.prog fn [] false (w.forCall tape i).memory i.args ∧ laidMetH Tryz.prog L (w.forCall tape i).memory) ∧ sizedMet enc Tryz.checked.prog fn (OpenSpec.ofChange s) false (w.forCall tape i).memory i.args) ∧ ({} : Assume).holds Tryz.checked.prog (lone (Frame.enter Tryz.checked.prog f i.args .normal) [] (w.forCall tape i)))
    (contract : ∀ (W : World) (base : Nat) (args : Array Value) (ds gs : List (DataW H)) (before : List MemPlace),
      (∀ (j : Nat) t v, fn.params[j]? = some t → args[j]? = some v → Value.okWide Tryz.checked.prog W .any base t v) →
      DataW.Whole enc Tryz.checked.prog fn.params.toList s.vars false W args.toList ds gs before →
      (DataW.weightsEach Tryz.checked.prog (fn.params.toList ++ s.plain.varTypes Tryz.checked.prog) (ds ++ gs)).all (· ≤ reachBytes) = true → Env W.heap.size W →
      Calls Tryz.checked.prog f args W fun e W' => ∃ v, e = .returned v ∧ s.post enc Tryz.checked.prog fn false true false false W args v W') :
    ReturnsInHanded {} Tryz.checked os f .any (fun w args => (s.pre enc Tryz.prog fn [] false w args ∧ laidMetH Tryz.prog L w) ∧ sizedMet enc Tryz.prog fn (OpenSpec.ofChange s) false w args) (s.post enc Tryz.prog fn false true false false) := by
  refine returnsInHanded_of_calls own started noInit witness ?_
  intro w tape i _ hsh _ hok hpre _
  obtain ⟨_, _, _, fn', hfn', _, _, _, _, hval⟩ := hok
  have e : fn' = fn := Option.some.inj (hfn'.symm.trans hfn)
  subst e
  obtain ⟨⟨⟨ds, gs, before, hw, _⟩, hx⟩, hz⟩ := hpre
  have hw' := DataW.Whole.of_heap (w' := w.forCall tape i) (by rfl) hw
  refine (contract (w.forCall tape i) w.heap.size i.args ds gs before hval hw' (hz.weights hw) (env_of (by rw [← hL]; exact hx.of_heap (by rfl)))).mono fun e W' ⟨v, he, hp⟩ => ?_
  subst he
  exact ChangeSpec.post_blind hp
end Go.Proofs.YthlacailhfhjnaaGreatDoor
