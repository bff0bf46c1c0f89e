import Derived.Test.YtpidmpefodnffaaGreatDoorZscf
import Derived.Sort.OwnSorted
import Derived.OwnWalk
import Derived.Maps.AppendAt
namespace Go.Proofs.YtpidmpefodnffaaGreatDoor
open Go.RowKit Go.Lib Go.Maps Go.Sort
theorem clone_any (l : Bs) (w : World) (hl : l.length ≤ 281474976710656) : Calls Tryz.prog 122 #[S l] w fun e w' => e = .returned (S l) ∧ Below w.heap.size w w' := by
  go_enter Tryz.func122, Tryz.ntmps122
  go_wp2_with (go_at_call 154; refine (Tryz.stringslite_Clone _ _ (by rw [ba_len]; omega)).mono ?_; rintro e w' ⟨rfl, hb⟩)
  go_ret
  exact ⟨rfl, hb⟩
theorem sort_rise {ss u : List Bs} (hn : ss.Nodup) (hm : ∀ x, x ∈ ss ↔ x ∈ u) : (ss.mergeSort fun x y => decide (x ≤ y)) = rise u := by
  have tr : ∀ a b c : Bs, leB a b = true → leB b c = true → leB a c = true := fun a b c h1 h2 => by simp only [leB, decide_eq_true_eq] at *; exact List.le_trans h1 h2
  have to : ∀ a b : Bs, (leB a b || leB b a) = true := fun a b => by simp only [leB, Bool.or_eq_true, decide_eq_true_eq]; exact List.le_total a b
  have hp := List.mergeSort_perm ss leB
  have hpw := List.pairwise_mergeSort tr to ss
  have hnd : (ss.mergeSort leB).Nodup := hp.symm.nodup hn
  refine (rise_of ?_ fun x => ?_).symm
  · refine List.Pairwise.imp₂ (R := fun a b => leB a b = true) (S := fun a b => a ≠ b) (fun {a b} h1 h2 => ?_) hpw hnd
    simp only [leB, decide_eq_true_eq] at h1
    rcases Decidable.em (a < b) with q | q
    · exact q
    · exact absurd (List.le_antisymm h1 (List.not_lt.1 q)) h2
  · rw [hp.mem_iff, hm x]
theorem grown_of_below {w w' : World} (h : Below w.heap.size w w') (row : Option Nat) : w.grownBy w' row := ⟨h.os, h.tape, h.output, h.size, fun i hi _ => h.block i hi⟩
/-- Texts in memory of one's own. -/
def OwnS (B : Nat) (w : World) (v : Value) (l : List Bs) : Prop := w.ownsRow B 9 1 v l.length (l.map encStr)
theorem OwnS.form {B : Nat} {w : World} {v : Value} {l : List Bs} (h : OwnS B w v l) : ∃ a cap, v = .slice a l.length cap := by
  rcases h.2 with ⟨e, q⟩ | ⟨g, cap, cur, e1, _⟩
  · exact ⟨none, 0, by rw [e, q]⟩
  · exact ⟨_, cap, e1⟩
theorem OwnS.sts {B : Nat} {w : World} {a : Option Addr} {n cap : Nat} {l : List Bs} (h : OwnS B w (.slice a n cap) l) : Sts w a l.length l := by
  rcases h.2 with ⟨e, q⟩ | ⟨g, cap', cur, e1, _⟩
  · cases e
    have : l = [] := List.eq_nil_of_length_eq_zero q
    subst this
    exact Sts.nil _ _
  · cases e1
    refine ⟨rfl, fun _ => ⟨g, 0, rfl, fun j hj => ?_⟩⟩
    rw [Nat.zero_add]
    have := h.cellAt j (by omega)
    rw [this]
    simp [hj]
set_option maxHeartbeats 8000000 in
set_option maxRecDepth 8000 in
theorem rising_any (b m : Nat) (u : List Bs) (w : World) (hs : SetAt w b m u) (hm : m ≤ 4294967296) (hU : ∀ x ∈ u, x.length ≤ 281474976710656) :
    Calls Tryz.prog 217 #[.map (some b)] w fun e w' => ∃ a cap, e = .returned (.slice a (rise u).length cap) ∧ OwnS w.heap.size w' (.slice a (rise u).length cap) (rise u) ∧ Below w.heap.size w w' ∧ (rise u).length ≤ m := by
  obtain ⟨i0, hi, hz0, hz1, hz2⟩ := info_parts info9
  have hltb := hs.lt
  obtain ⟨D, hown, hhas⟩ := hs
  have HH := hide hhas
  have HW := hide hown
  have HU := hide hU
  have hsz := hown.size_le
  clear hhas hU
  go_enter Tryz.func217, Tryz.ntmps217
  go_wp2_with (first | (at_range; refine wpList_range_own _ rfl _ 287 rfl 9 292 law9 Tryz.underlying287 unitElem b m D rfl hown ?_; intro w0 hrg0 hg0 hs0; have HG0 := hide hg0; have HZ0 := hide hs0; clear hg0 hs0))
  go_frame
  go_loopw [3] (fun v wr => ∃ (left : Lit → Bool) (cnt : Nat) (ss : List Bs), wr.ranges Tryz.prog 9 (unitElem (H := Unit)) b w.heap.size m D left cnt ∧ ss.length + cnt ≤ Maps.size D ∧ OwnS w.heap.size wr v ss ∧ Collected D left ss ∧ Below w.heap.size w wr) (fun _ wr => wr.rangeLeft b w.heap.size)
  case atStart => exact ⟨_, _, [], hrg0, by simp, World.ownsRow_nil _ _ _ _, Collected.start D, (Below.refl _ _).grown (unhide HG0) (Nat.le_refl _) (fun j hj => by cases hj)⟩
  case round =>
    obtain ⟨left, cnt, ss, hrg, hcs, hrow, hC, hbel⟩ := hrel
    obtain ⟨va, vc, rfl⟩ := hrow.form
    have HC := hide hC
    have HB := hide hbel
    have HR := hide hrow
    clear hC hbel hrg0 hrow hown
    go_wp2_with (first | (at_next; refine wpList_next_ranges _ rfl _ rfl 9 law9 unitElem encStr (fun _ : Unit => Value.agg #[]) invK invV b w.heap.size m _ _ _ rfl hrg ?_ ?_))
    · intro _ hl0
      have hC := unhide HC
      have hmem : ∀ x, x ∈ ss ↔ x ∈ u := fun x => (hC.2 x).trans (by rw [hl0]; simp [unhide HH x])
      have hR := sort_rise hC.1 hmem
      have hlen : (rise u).length = ss.length := by rw [← hR]; simp
      have HLEN := hide hlen
      have HSR := hide hR
      clear hl0 hrg hC hmem hR hlen
      by_cases hss : ss = []
      · subst hss
        have e0 : rise u = [] := List.eq_nil_of_length_eq_zero (unhide HLEN)
        have HE0 := hide e0
        clear HLEN HSR e0
        go_wp2_with fail
        refine (Tryz.slices_Sort_string_none va vc wr).mono ?_
        rintro e w2 ⟨rfl, rfl⟩
        go_wp2
        go_ret
        have e0 := unhide HE0
        rw [e0]
        exact ⟨va, vc, rfl, unhide HR, unhide HB, Nat.zero_le _⟩
      · rcases (unhide HR).2 with ⟨hnil, q⟩ | ⟨g, cap, cur, e1, hbase, hb, h1, h2, h3, h4⟩
        · exact absurd (List.eq_nil_of_length_eq_zero q) hss
        cases e1
        have hH : Holds encStr wr g 0 ss.toArray := holds_of_block hb (by simpa using h4)
        have HS := hide (Tryz.slices_Sort_string g 0 vc ss wr hH (Array.getElem?_eq_some_iff.1 hb).1 (by omega))
        have HX := hide (fun n os => ownsRow_sorted (n := n) (os := os) (ss := ss) (ts := ss.mergeSort fun x y => decide (x ≤ y)) (by simp) hbase hb h1 h2 h3)
        have HY := hide (fun n os => (unhide HB).grown (grownBy_sorted (w := wr) (g := g) (n := n) (os := os) (ss.mergeSort fun x y => decide (x ≤ y)).toArray) (unhide HB).size (fun j hj => by cases hj; exact hbase))
        rw [unhide HSR] at HX HY HS
        clear hH hb h1 h2 h3 h4 hbase
        go_wp2_with fail
        refine (unhide HS).mono ?_
        rintro e w2 ⟨rfl, n, os, rfl⟩
        go_wp2
        go_ret
        refine ⟨some ⟨g, 0, none⟩, vc, by rw [unhide HLEN]; rfl, ?_, unhide HY n os, by rw [unhide HLEN]; omega⟩
        have := unhide HX n os
        unfold OwnS
        rw [unhide HLEN]
        exact this
    · intro x c kl yd w1 cnt1 hkey hlk hv hat hrg1 hlt hg1 hs1 hen
      obtain ⟨x', ex, rfl, hxl⟩ := Maps.keyOf_str Tryz.underlying9 hkey
      obtain rfl : x = x' := encStr_inj ex
      have hxu := (unhide HH x).1 (has_true_of_atKey hat)
      have HCL := hide (clone_any x w1 (unhide HU x hxu))
      have HC1 := hide ((unhide HC).step hlk hat)
      have hrow1 : OwnS w.heap.size w1 (.slice va ss.length vc) ss := (unhide HR).kept hg1 (Or.inr (row_ne_iter (unhide HR) hrg).symm)
      have HR1 := hide hrow1
      have HG1 := hide hrg1
      have HLE := hide hrg.left_eq
      have hb1 := (unhide HB).grown hg1 (unhide HB).size (fun j hj => by cases hj; exact Nat.le_refl _)
      have HB1 := hide hb1
      have hz1' := hb1.size
      clear hs1 hg1 hat hv hlk hrg1 hrow1 hxu hb1 hrg HR HB HC
      go_wp2_with fail
      refine (unhide HCL).mono ?_
      rintro e w2 ⟨rfl, b2⟩
      have HG2 := hide ((unhide HG1).kept (grown_of_below b2 none) (by simp) (by simp))
      have hrow2 : OwnS w.heap.size w2 (.slice va ss.length vc) ss := (unhide HR1).kept (grown_of_below b2 none) (by cases va with | none => exact Or.inl rfl | some _ => exact Or.inr (by simp [Value.ownBlock]))
      have HR2 := hide hrow2
      have HB2 := hide ((unhide HB1).trans (b2.mono hz1'))
      have hz2' : w.heap.size ≤ w2.heap.size := (unhide HB2).size
      clear b2 hrow2 HG1 HR1 HB1 HCL
      go_wp2_with (first
        | (at_builtin; refine wpList_append_own _ rfl _ _ 22 rfl w.heap.size 9 i0 (.string ⟨#[]⟩) 1 16 Tryz.underlying22 hi hz0 hz1 hz2 rfl (by decide) _ _ _ rfl ((unhide HR2).alloc _) ⟨w2.heap.size, 0, none⟩ 1 1 [encStr x] rfl rfl (cell_one_new _ _ _) (by simp [Value.oneCell', encStr]) (by unfold maxLen; omega) (by omega) (by simp; omega) ?_; intro v' w3 hown' hg3 hnil3; have HO := hide hown'; have HG3 := hide hg3; clear hown' hg3 hnil3))
      have hrow3 := (unhide HR2).alloc (.cells #[encStr x] 9)
      have hrg2 := (unhide HG2).alloc (.cells #[encStr x] 9)
      have hrg3 := hrg2.kept (unhide HG3) (row_ne_low hrow3 hltb) (row_ne_iter hrow3 hrg2)
      refine ⟨⟨_, cnt1, ss ++ [x], hrg3, by simp; omega, by unfold OwnS; simpa using unhide HO, unhide HC1, ((unhide HB2).alloc hz2' _).grown (unhide HG3) (by simp; omega) (fun j hj => (hrow3.lt j hj).1)⟩, ?_⟩
      rw [hrg3.left_eq, unhide HLE]
      exact hlt
end Go.Proofs.YtpidmpefodnffaaGreatDoor
namespace Go.Proofs.YtpidmpefodnffaaGreatDoor
open Go.RowKit Go.Lib Go.Maps Go.Sort
def OutL (w : World) (r : List Bs) (e : Ending) (w' : World) : Prop := ∃ a cap, e = .returned (.slice a r.length cap) ∧ OwnS w.heap.size w' (.slice a r.length cap) r ∧ Below w.heap.size w w'
def OutP (w : World) (r : List Bs × Nat) (e : Ending) (w' : World) : Prop := ∃ a cap, e = .returned (.tuple #[.slice a r.1.length cap, .int .i64 (r.2 : Int)]) ∧ OwnS w.heap.size w' (.slice a r.1.length cap) r.1 ∧ Below w.heap.size w w'
theorem own_nil (B : Nat) (w : World) : OwnS B w (.slice none 0 0) [] := World.ownsRow_nil _ _ _ _
theorem OwnS.below {B B' : Nat} {w w' : World} {v : Value} {l : List Bs} (h : OwnS B w v l) (hb : Below w.heap.size w w') (hB : B' ≤ B) : OwnS B' w' v l := by
  refine ⟨h.1, ?_⟩
  rcases h.2 with q | ⟨g, cap, cur, e1, e2, e3, e4⟩
  · exact .inl q
  · exact .inr ⟨g, cap, cur, e1, by omega, (hb.block g (Array.getElem?_eq_some_iff.1 e3).1).trans e3, e4⟩
theorem nm_len {x : Bs} (h : nm x = true) : x.length ≤ 16 := by
  simp only [nm, Bool.and_eq_true, decide_eq_true_eq] at h
  exact h.1.2
theorem rise_names {u : List Bs} (h : ∀ x ∈ u, nm x = true) : ∀ x ∈ rise u, nm x = true := fun x hx => h x (mem_rise.1 hx)
set_option maxHeartbeats 4000000 in
theorem scope_any (b m : Nat) (u : List Bs) (w : World) (hs : SetAt w b m u) (hm : m ≤ 4294967296) (hU : ∀ x ∈ u, nm x = true) :
    Calls Tryz.prog 215 #[.map (some b)] w (OutP w (bound (rise u))) := by
  have HR := hide (rising_any b m u w hs hm (fun x hx => by have := nm_len (hU x hx); omega))
  have HN := hide (rise_names hU)
  have hbd : bound (rise u) = if many (rise u) then ([], 61) else (rise u, 0) := rfl
  have htm : tm (rise u) = if many (rise u) then 61 else 0 := rfl
  have HBD := hide hbd
  have HTM := hide htm
  clear hs hU hbd htm
  generalize bound (rise u) = bd at *
  generalize rise u = l at *
  go_enter Tryz.func215, Tryz.ntmps215
  go_wp2_with fail
  refine (unhide HR).mono ?_
  rintro e w1 ⟨a, cap, rfl, ho, b1, hlm⟩
  have HT := hide (tooMany_any a l.length cap l w1 ho.sts (by omega) (fun h => tx_names (unhide HN) h))
  have HO := hide ho
  have HB := hide b1
  clear ho b1 HN HR
  cases hmn : many l
  · rw [hmn] at HBD HTM
    rw [unhide HTM] at HT
    clear HTM hmn
    go_wp2_with fail
    refine (unhide HT).mono ?_
    rintro e w2 ⟨rfl, b2⟩
    have HB2 := hide ((unhide HB).trans (b2.mono (unhide HB).size))
    have HO2 := hide ((unhide HO).below b2 (Nat.le_refl _))
    clear b2 HO HB
    go_wp2
    go_ret2
    rw [unhide HBD]
    exact ⟨a, cap, rfl, unhide HO2, unhide HB2⟩
  · rw [hmn] at HBD HTM
    rw [unhide HTM] at HT
    clear HTM hmn
    go_wp2_with fail
    refine (unhide HT).mono ?_
    rintro e w2 ⟨rfl, b2⟩
    have HB2 := hide ((unhide HB).trans (b2.mono (unhide HB).size))
    clear b2 HO HB
    go_wp2
    go_ret2
    rw [unhide HBD]
    exact ⟨none, 0, rfl, own_nil _ _, unhide HB2⟩
theorem SetAt.below {w w' : World} {b n : Nat} {u : List Bs} (h : SetAt w b n u) (hb : Below w.heap.size w w') : SetAt w' b n u := h.only (P := fun _ => False) (Only.of_below hb) (fun q => q)
theorem Only.bel {w w' : World} {b B : Nat} (h : Only (fun k => k = b) w w') (hB : B ≤ b) (hw : B ≤ w.heap.size) : Below B w w' := h.below (Below.refl _ _) hw (fun k e => by omega)
theorem all_get (f : Bs → Bool) (l : List Bs) (k : Nat) (h : k < l.length) (hp : f (l.getD k []) = false) : l.all f = false := by
  rw [Bool.eq_false_iff]
  intro q
  rw [List.all_eq_true] at q
  have e : l.getD k [] = l[k] := by simp [h]
  rw [e, q _ (List.getElem_mem h)] at hp
  cases hp
theorem spl_lens (s : Bs) (hs : s.length < 4294967281) : Lns (spl s) := by
  have h : ∀ (s : Bs), ∀ x ∈ spl s, x.length ≤ s.length := by
    intro s
    induction s with
    | nil => intro x hx; simp [spl] at hx; subst hx; simp
    | cons c r ih =>
      intro x hx
      unfold spl at hx
      split at hx
      · rcases List.mem_cons.1 hx with q | q
        · subst q; simp
        · have := ih x q; simp only [List.length_cons]; omega
      · revert hx
        cases hq : spl r with
        | nil => intro hx; simp at hx; subst hx; simp
        | cons a t =>
          intro hx
          rw [hq] at ih
          rcases List.mem_cons.1 hx with q | q
          · subst q; have := ih a (by simp); simp only [List.length_cons]; omega
          · have := ih x (by simp [q]); simp only [List.length_cons]; omega
  intro j
  by_cases hj : j < (spl s).length
  · have e : (spl s).getD j [] = (spl s)[j] := by simp [hj]
    rw [e]
    have := h s _ (List.getElem_mem hj)
    omega
  · have e : (spl s).getD j [] = [] := by simp [List.getElem?_eq_none (Nat.le_of_not_lt hj)]
    rw [e]
    simp
theorem lns_one (x : Bs) (h : x.length ≤ 9223372036854775807) : Lns [x] := by
  intro j
  cases j with
  | zero => exact h
  | succ j => simp
set_option maxHeartbeats 8000000 in
set_option maxRecDepth 8000 in
theorem Parse_any (s : Bs) (w : World) (hs : s.length < 4294967281) : Calls Tryz.prog 212 #[S s] w (OutP w (parse s)) := by
  by_cases h0 : s = []
  · subst h0
    have HE : Hid (parse [] = ([], 0)) := hide rfl
    generalize parse [] = r at *
    go_enter Tryz.func212, Tryz.ntmps212
    go_wp2
    go_ret2
    rw [unhide HE]
    exact ⟨none, 0, rfl, own_nil _ _, Below.refl _ _⟩
  · have HE : Hid (parse s = if (spl s).all nm then bound (rise (spl s)) else ([], 60)) := hide (by unfold parse; rw [if_neg h0])
    have hmk : (Instr.makeMap 287 none).run Tryz.prog w = .ok (.map (some w.heap.size)) (w.alloc (.map #[] 0)) := rfl
    have hb0 : Below w.heap.size w (w.alloc (.map #[] 0)) := (Below.refl _ w).alloc (Nat.le_refl _) _
    have HSP := hide (split_any s (w.alloc (.map #[] 0)) hs)
    have HLN := hide (spl_lens s hs)
    have hcn := spl_cnt s
    have HST := hide (show Sts _ (some ⟨w.heap.size + 1, 0, none⟩) _ _ from by have := sts_new (w.alloc (.map #[] 0)) (spl s); simpa using this)
    have HSET := hide ((setAt_new w).below ((Below.refl _ _).alloc (Nat.le_refl _) (.cells (cellsS (spl s)) 9)))
    have HB0 := hide (hb0.alloc (by simp) (.cells (cellsS (spl s)) 9))
    have heq : List.isEmpty s = false := by
      cases s with
      | nil => exact absurd rfl h0
      | cons c r => rfl
    clear hb0 h0
    generalize parse s = r at *
    generalize spl s = u at *
    go_enter Tryz.func212, Tryz.ntmps212
    go_wp2_with (first | (go_at_call 213; refine (unhide HSP).mono ?_; rintro e w2 ⟨rfl, rfl⟩))
    go_loopw [13] (fun i wr => ∃ k : Nat, k ≤ u.length ∧ i = .int .i64 k ∧ (u.take k).all nm = true ∧ SetAt wr w.heap.size k (u.take k) ∧ Sts wr (some ⟨w.heap.size + 1, 0, none⟩) u.length u ∧ Below w.heap.size w wr) (fun i _ => u.length - (Go.RowKit.intOf i).toNat)
    case atStart => exact ⟨0, Nat.zero_le _, rfl, rfl, by simpa using unhide HSET, unhide HST, unhide HB0⟩
    case round =>
      obtain ⟨k, hk, rfl, hall, hset, hst, hbel⟩ := hrel
      clear HST HSET HB0 HSP hmk heq
      by_cases hlt : k < u.length
      · obtain ⟨p, o, e1, hpl, hc0⟩ := hst.at hlt
        cases e1
        rw [Nat.zero_add] at hc0
        have hlt' : (k : Int) < (u.length : Int) := by omega
        have HNM := hide (fun W => isName_any (u.getD k []) W (unhide HLN k))
        have HNO := hide (all_get nm u k hlt)
        have HTK := hide (show u.take (k + 1) = u.take k ++ [u.getD k []] by rw [take_snocS u k hlt]; simp [hlt])
        have HL1 := hide (lns_one _ (unhide HLN k))
        have HAL := hide hall
        have HSE := hide hset
        have HS := hide hst
        have HB := hide hbel
        clear hall hset hst hbel
        generalize u.getD k [] = x at *
        cases hx : nm x
        · rw [hx] at HNM
          have HF := hide (unhide HNO hx)
          clear HNO HTK HL1 hx HAL HSE HS
          go_wp2_with (first | (go_at_call 166; refine (unhide HNM _).mono ?_; rintro e w2 ⟨rfl, rfl⟩))
          go_ret2
          rw [unhide HE, unhide HF]
          exact ⟨none, 0, rfl, own_nil _ _, unhide HB⟩
        · rw [hx] at HNM
          have HALL := hide (show (u.take (k + 1)).all nm = true by rw [unhide HTK]; simp [unhide HAL, hx])
          have hba : Below wr.heap.size wr (wr.alloc (.cells #[S x] 9)) := (Below.refl _ _).alloc (Nat.le_refl _) _
          have HADD := hide (add_any w.heap.size k (u.take k) (some ⟨wr.heap.size, 0, none⟩) 1 1 [x] (wr.alloc (.cells #[S x] 9)) ((unhide HSE).below hba) (sts_new wr [x]) (by omega) (by omega) (unhide HL1))
          have HST2 := hide ((unhide HS).below hba)
          have HB2 := hide ((unhide HB).trans (hba.mono (unhide HB).size))
          have hzz : w.heap.size ≤ (wr.alloc (.cells #[S x] 9)).heap.size := (unhide HB2).size
          have HNE := hide ((unhide HSE).below hba)
          clear HNO HL1 hx HAL HSE HS hba
          go_wp2_with (first | (go_at_call 166; refine (unhide HNM _).mono ?_; rintro e w2 ⟨rfl, rfl⟩) | (go_at_call 214; refine (unhide HADD).mono ?_; rintro e w3 ⟨rfl, hs3, ho3⟩; have HS3 := hide hs3; have HO3 := hide ho3; clear hs3 ho3))
          refine ⟨⟨k + 1, by omega, by go_num, unhide HALL, by rw [unhide HTK]; exact unhide HS3, (unhide HST2).only (unhide HO3) (fun p o j v e hc => (unhide HNE).ne hc), (unhide HB2).trans ((unhide HO3).bel (Nat.le_refl _) hzz)⟩, ?_⟩
          simp [Go.RowKit.intOf]; omega
      · have hd : ¬ (k : Int) < (u.length : Int) := by omega
        have e : u.take k = u := List.take_of_length_le (by omega)
        have ek : k = u.length := by omega
        rw [e] at hall hset
        have HALL := hide hall
        have HSC := hide (scope_any w.heap.size k u wr hset (by omega) (List.all_eq_true.1 hall))
        have HB := hide hbel
        clear hall hset hst hbel e ek
        go_wp2_with fail
        refine (unhide HSC).mono ?_
        rintro e w2 ⟨a, cap, rfl, ho, b2⟩
        have HO := hide ho
        have HB2 := hide ((unhide HB).trans (b2.mono (unhide HB).size))
        clear ho b2
        go_wp2
        go_ret2
        rw [unhide HE, unhide HALL]
        exact ⟨a, cap, rfl, (unhide HO).below (Below.refl _ _) (unhide HB).size, unhide HB2⟩
end Go.Proofs.YtpidmpefodnffaaGreatDoor
