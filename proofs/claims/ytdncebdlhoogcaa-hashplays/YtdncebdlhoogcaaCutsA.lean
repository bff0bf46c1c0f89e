import Derived.Test.YtdncebdlhoogcaaKeysA
namespace Go.Proofs.Ytdncebdlhoogcaa
open Go.RowKit
open Sha
def tS (l : List UInt8) : Value := .string ⟨l.toArray⟩
theorem own_ne {w : World} {base b n : Nat} {v : Value} {xs : List Value} {c : Array Value} (h : w.ownsRow base 9 1 v n xs) (hr : Row w b c 70) : v.ownBlock ≠ some b := by
  intro q
  rcases h.2 with ⟨e, _⟩ | ⟨g, cap, cur, e1, _, e3, _⟩
  · subst e; simp [Value.ownBlock] at q
  · subst e1
    simp [Value.ownBlock] at q
    subst q
    rw [Row] at hr
    rw [hr] at e3
    simp at e3
theorem own_only {w w' : World} {base b n : Nat} {v : Value} {xs : List Value} (h : w.ownsRow base 9 1 v n xs) (ho : Only b w w') (hn : v.ownBlock ≠ some b) : w'.ownsRow base 9 1 v n xs := by
  refine ⟨h.1, ?_⟩
  rcases h.2 with q | ⟨g, cap, cur, e1, e2, e3, r⟩
  · exact .inl q
  · refine .inr ⟨g, cap, cur, e1, e2, ?_, r⟩
    subst e1
    exact (ho.block g (Array.getElem?_eq_some_iff.1 e3).1 (by intro q; subst q; exact hn rfl)).trans e3
theorem own_below {w w' : World} {base n : Nat} {v : Value} {xs : List Value} (h : w.ownsRow base 9 1 v n xs) (hb : Below w.heap.size w w') : w'.ownsRow base 9 1 v n xs := by
  refine ⟨h.1, ?_⟩
  rcases h.2 with q | ⟨g, cap, cur, e1, e2, e3, r⟩
  · exact .inl q
  · exact .inr ⟨g, cap, cur, e1, e2, (hb.block g (Array.getElem?_eq_some_iff.1 e3).1).trans e3, r⟩
/-- What was cut off so far. -/
structure CI (w wr : World) (b : Nat) (t : List UInt8) (j k : Nat) (v : Value) (ps : List (List UInt8)) : Prop where
  hj : j ≤ t.length
  hf : ps.flatten = t.take j
  hk : ps.length = k
  own : wr.ownsRow w.heap.size 9 1 v k (ps.map tS)
  row : Row wr b (hc (took h0 (t.take j))) 70
  be : Below w.heap.size w wr
  hb : w.heap.size ≤ b
theorem CI.app {w wr w2 : World} {b : Nat} {t : List UInt8} {j k : Nat} {v v' : Value} {ps : List (List UInt8)} (h : CI w wr b t j k v ps) (o : Obj) (l : List UInt8)
    (hown : w2.ownsRow w.heap.size 9 1 v' (k + 1) (ps.map tS ++ [tS l])) (hg : (wr.alloc o).grownBy w2 v.ownBlock) :
    Row w2 b (hc (took h0 (t.take j))) 70 ∧ Below w.heap.size w w2 ∧ w2.ownsRow w.heap.size 9 1 v' (k + 1) ((ps ++ [l]).map tS) := by
  have hne := own_ne h.own h.row
  refine ⟨?_, (h.be.alloc h.be.size o).grown hg (by simp; have := h.be.size; omega) (fun k e => (h.own.lt k e).1), by simpa using hown⟩
  have hr := h.row.alloc o
  exact (hg.block b hr.lt (by intro q; exact hne q.symm)).trans hr
theorem CI.next {w wr w2 w3 : World} {b : Nat} {t : List UInt8} {j k m : Nat} {v v' : Value} {ps : List (List UInt8)} (h : CI w wr b t j k v ps) (hm : m ≤ (t.drop j).length)
    (hr : Row w2 b (hc (took h0 (t.take j))) 70) (hbe : Below w.heap.size w w2) (hown : w2.ownsRow w.heap.size 9 1 v' (k + 1) ((ps ++ [(t.drop j).take m]).map tS))
    (hr3 : Row w3 b (hc (took (took h0 (t.take j)) ((t.drop j).take m))) 70) (ho : Only b w2 w3) : CI w w3 b t (j + m) (k + 1) v' (ps ++ [(t.drop j).take m]) := by
  have e : t.take (j + m) = t.take j ++ (t.drop j).take m := by rw [List.take_add]
  refine ⟨by simp at hm; have := h.hj; omega, ?_, by simp [h.hk], own_only hown ho (own_ne hown hr), ?_, ho.below hbe h.hb hbe.size, h.hb⟩
  · rw [List.flatten_append, h.hf, e]; simp
  · rw [e, took_append]; exact hr3
theorem ext0_eq (R : List UInt8) (m : Nat) : (ByteArray.mk R.toArray).extract 0 m = ⟨(R.take m).toArray⟩ := by
  apply ByteArray.ext
  rw [ByteArray.data_extract]
  simp
theorem info9 : (Try.prog.info? 9).map (fun i => (i.zero, i.size, i.bytes)) = some (some (.string ⟨#[]⟩), 1, 16) := by kernel_rfl
theorem own_parts {w : World} {base n : Nat} {v : Value} {ps : List (List UInt8)} (h : w.ownsRow base 9 1 v n (ps.map tS)) (hn : 0 < n) : ∃ g cap, v = .slice (some ⟨g, 0, none⟩) n cap ∧ Parts w (some ⟨g, 0, none⟩) n ps := by
  have hl := h.1
  rcases h.2 with ⟨_, q⟩ | ⟨g, cap, cur, e1, e2, e3, e4, e5, e6, e7⟩
  · omega
  · subst e1
    have hlen : n = ps.length := by simpa using hl.symm
    refine ⟨g, cap, rfl, hlen, fun _ => ⟨g, 0, rfl, fun j hj => ?_⟩⟩
    rw [Nat.zero_add, h.cellAt j (by omega)]
    have : j < ps.length := by omega
    simp [tS, this]
set_option maxHeartbeats 2000000 in
theorem cuts_walk (t key : List UInt8) (a1 : Option Addr) (len cap : Nat) (zs : List Int) (w : World) (ht : t.length ≤ 1048576) (hk : key.length ≤ 1048576) (hlen : len ≤ 1048576)
    (hz : 0 < len → ∃ p o, a1 = some ⟨p, o, none⟩ ∧ ∀ j, j < len → w.cell? ⟨p, o + j, none⟩ = some (.int .i64 (zs.getD j 0)))
    (hw : ∀ j, -9223372036854775808 ≤ zs.getD j 0 ∧ zs.getD j 0 ≤ 9223372036854775807) :
    Calls Try.prog 7 #[.string ⟨t.toArray⟩, .slice a1 len cap, .string ⟨key.toArray⟩] w fun e w' => e = .returned (.bool true) ∧ Below w.heap.size w w' := by
  obtain ⟨i9, hi, hz0, hz1, hz2⟩ := info_parts info9
  have HZ := hide hz
  have HW := hide hw
  clear hz hw
  go_enter Try.func7, Try.ntmps7
  go_wp2_with fail
  refine (known_any w).mono ?_
  rintro e w1 ⟨rfl, hb1⟩
  go_wp2_with fail
  refine (new_any w1).mono ?_
  rintro e w2 ⟨b, rfl, hbb, hr2, hb2⟩
  have hI0 : CI w w2 b t 0 0 (.slice none 0 0) [] := ⟨by omega, rfl, rfl, World.ownsRow_nil _ _ _ _, hr2, hb1.trans (hb2.mono hb1.size), Nat.le_trans hb1.size hbb⟩
  have HI0 := hide hI0
  clear hb1 hb2 hr2 hbb hI0
  go_wp2
  go_loopw [9, 10, 11] (fun v r i wr => ∃ (k j : Nat) (ps : List (List UInt8)), k ≤ len ∧ i = .int .i64 k ∧ r = .string ⟨(t.drop j).toArray⟩ ∧ CI w wr b t j k v ps) (fun _ _ i _ => len - (intOf i).toNat)
  case atStart => exact ⟨0, 0, [], by omega, rfl, rfl, unhide HI0⟩
  case round =>
    clear HI0
    obtain ⟨k, j, ps, hkl, rfl, rfl, hI⟩ := hrel
    by_cases hlt : k < len
    · obtain ⟨p, o, rfl, hcell⟩ := unhide HZ (by omega)
      have hck := hcell k hlt
      have hplt : p < w.heap.size := block_lt_of_cell hck
      have c0 : wr.cell? ⟨p, o + k, none⟩ = some (.int .i64 (zs.getD k 0)) := (hI.be.cell (by exact hplt)).trans hck
      have hzk := unhide HW k
      have hdl : (t.drop j).length ≤ 1048576 := by simp; omega
      generalize zs.getD k 0 = z at *
      have HI := hide hI
      clear hcell hck hI
      generalize hR : t.drop j = R at *
      have HR := hide hR
      clear hR
      go_wp2_with fail
      refine (pick_any z _ wr hzk.1 hzk.2 (by omega) (by omega)).mono ?_
      rintro e wx ⟨m, hm, rfl, rfl⟩
      have hm1 : m ≤ R.length := by omega
      have hx1 := ext0_eq R m
      have hx2 := ext_eq R m
      go_wp2_with (at_builtin; refine wpList_append_own _ rfl _ _ 22 rfl w.heap.size 9 i9 (.string ⟨#[]⟩) 1 16 Try.underlying22 hi hz0 hz1 hz2 rfl (by decide) _ _ _ rfl ((unhide HI).own.alloc _) ⟨wx.heap.size, 0, none⟩ 1 1 [tS (R.take m)] rfl rfl ?c1 ?c2 ?c3 ?c4 ?c5 ?_)
      case c1 =>
        intro j' u' hj'
        match j', hj' with
        | 0, hj' => simp at hj'; subst hj'; simp [Addr.add, tS]
      case c2 => intro u' hu'; simp at hu'; subst hu'; rfl
      case c3 => unfold maxLen; omega
      case c4 => omega
      case c5 => have := (unhide HI).be.size; simp; omega
      intro v' w3 hown' hgrow _
      obtain ⟨hr3, hbe3, hown3⟩ := (unhide HI).app _ _ hown' hgrow
      have HR3 := hide hr3
      have HO3 := hide hown3
      clear hown' hgrow hr3 hown3
      go_wp2_with fail
      have hnn : (took h0 (t.take j)).n = (t.take j).length := by rw [took_n, h0_n]; omega
      have htl : (t.take j).length ≤ t.length := List.length_take_le' _ _
      refine (write_any _ b (R.take m) w3 (unhide HR3) (by rw [took_t]; rfl) (by rw [hnn]; simp; omega)).mono ?_
      rintro e w4 ⟨rfl, hr4, ho4⟩
      have hCI : CI w w4 b t (j + m) (k + 1) v' (ps ++ [R.take m]) := by
        have hr4' := hr4
        have ho3' := unhide HO3
        rw [← unhide HR] at hr4' ho3' ⊢
        exact (unhide HI).next (by rw [unhide HR]; exact hm1) (unhide HR3) hbe3 ho3' hr4' ho4
      have HCI := hide hCI
      clear hr4 ho4 hCI HR3 HO3 hbe3 hnn htl c0
      go_wp2
      go_roundw
      case rel =>
        refine ⟨k + 1, j + m, ps ++ [R.take m], by omega, by go_num, ?_, unhide HCI⟩
        rw [← unhide HR, List.drop_drop]
      case measure => simp [intOf]; omega
    · have hkl2 : k = len := by omega
      have hd : decide (k < len) = false := by simp; omega
      generalize hR : t.drop j = R at *
      have HR := hide hR
      have hRl : R.length ≤ 1048576 := by rw [← hR]; simp; omega
      have hjR : j + R.length = t.length := by rw [← hR]; simp; have := hI.hj; omega
      have HJ := hide hjR
      have HI := hide hI
      clear hR hjR hI hlt hkl2
      go_wp2_with (at_builtin; refine wpList_append_own _ rfl _ _ 22 rfl w.heap.size 9 i9 (.string ⟨#[]⟩) 1 16 Try.underlying22 hi hz0 hz1 hz2 rfl (by decide) _ _ _ rfl ((unhide HI).own.alloc _) ⟨wr.heap.size, 0, none⟩ 1 1 [tS R] rfl rfl ?c1 ?c2 ?c3 ?c4 ?c5 ?_)
      case c1 =>
        intro j' u' hj'
        match j', hj' with
        | 0, hj' => simp at hj'; subst hj'; simp [Addr.add, tS]
      case c2 => intro u' hu'; simp at hu'; subst hu'; rfl
      case c3 => unfold maxLen; omega
      case c4 => omega
      case c5 => have := (unhide HI).be.size; simp; omega
      intro v' w3 hown' hgrow _
      obtain ⟨hr3, hbe3, hown3⟩ := (unhide HI).app _ _ hown' hgrow
      have HR3 := hide hr3
      have HO3 := hide hown3
      clear hown' hgrow hr3 hown3
      go_wp2_with fail
      have hnn : (took h0 (t.take j)).n = (t.take j).length := by rw [took_n, h0_n]; omega
      have htl : (t.take j).length ≤ t.length := List.length_take_le' _ _
      refine (write_any _ b R w3 (unhide HR3) (by rw [took_t]; rfl) (by rw [hnn]; omega)).mono ?_
      rintro e w4 ⟨rfl, hr4, ho4⟩
      have hCI : CI w w4 b t (j + R.length) (k + 1) v' (ps ++ [R]) := by
        have hr4' := hr4
        have ho3' := unhide HO3
        have e : R = (t.drop j).take R.length := by rw [unhide HR, List.take_of_length_le (Nat.le_refl _)]
        rw [e] at hr4' ho3'
        have := (unhide HI).next (by rw [unhide HR]; exact Nat.le_refl _) (unhide HR3) hbe3 ho3' hr4' ho4
        rwa [← e] at this
      rw [unhide HJ] at hCI
      have hfl : (ps ++ [R]).flatten = t := by rw [hCI.hf]; exact List.take_of_length_le (Nat.le_refl _)
      have hrow4 : Row w4 b (hc (took h0 t)) 70 := by have := hCI.row; rwa [List.take_of_length_le (Nat.le_refl _)] at this
      have hbe4 := hCI.be
      obtain ⟨g, cp, rfl, hP4⟩ := own_parts hCI.own (by omega)
      have hown4 := hCI.own
      generalize ps ++ [R] = qs at *
      have HF := hide hfl
      have HRow4 := hide hrow4
      have HO4 := hide hown4
      have htn : (took h0 t).n = t.length := by rw [took_n, h0_n]; omega
      have HTN := hide htn
      clear hr4 ho4 hCI HR3 HO3 hbe3 hnn htl hfl hrow4 hP4 hown4 htn HI HJ HR
      go_wp2_with fail
      refine (sum_any (some ⟨w4.heap.size, 0, none⟩) 1 1 [t] _ (Parts.new w4 [t]) (by omega) (by simp; omega)).mono ?_
      rintro e w5 ⟨rfl, hb5⟩
      rw [show [t].flatten = t from by simp]
      have hb45 : Below w4.heap.size w4 w5 := (alloc_below w4 _).trans (hb5.mono (by simp))
      have hrow5 := (unhide HRow4).below hb45 (unhide HRow4).lt
      have hown5 := own_below (unhide HO4) hb45
      have hbe5 := hbe4.trans (hb45.mono hbe4.size)
      have hls : (sum t).length = 32 := sum_len t
      have HRow5 := hide hrow5
      have HO5 := hide hown5
      clear hb5 hb45 hrow5 hown5 hbe4 HRow4 HO4
      go_wp2_with fail
      obtain ⟨g', cp', e', hP5⟩ := own_parts (unhide HO5) (by omega)
      obtain ⟨rfl, rfl⟩ : g' = g ∧ cp' = cp := by simp at e'; exact ⟨e'.1.symm, e'.2.symm⟩
      refine (sum_any (some ⟨g', 0, none⟩) (k + 1) cp' qs w5 hP5 (by omega) (by rw [unhide HF]; omega)).mono ?_
      rintro e w6 ⟨rfl, hb6⟩
      rw [unhide HF]
      have hrow6 := (unhide HRow5).below hb6 (unhide HRow5).lt
      have hown6 := own_below (unhide HO5) hb6
      have hbe6 := hbe5.trans (hb6.mono hbe5.size)
      have HRow6 := hide hrow6
      have HO6 := hide hown6
      clear hb6 hrow6 hown6 hbe5 HRow5 HO5 hP5 e'
      go_wp2_with fail
      refine (hsum_any (took h0 t) b w6 (unhide HRow6) (by rw [took_t]; rfl) (by rw [unhide HTN]; omega)).mono ?_
      rintro e w7 ⟨rfl, hb7⟩
      rw [show sumH (took h0 t) = sum t from rfl]
      have hrow7 := (unhide HRow6).below hb7 (unhide HRow6).lt
      have hown7 := own_below (unhide HO6) hb7
      have hbe7 := hbe6.trans (hb7.mono hbe6.size)
      have HRow7 := hide hrow7
      have HO7 := hide hown7
      clear hb7 hrow7 hown7 hbe6 HRow6 HO6
      go_wp2_with fail
      refine (len_any (took h0 t) b w7 (unhide HRow7) (by rw [took_t]; rfl)).mono ?_
      rintro e w8 ⟨rfl, rfl⟩
      rw [unhide HTN]
      go_wp2_with fail
      obtain ⟨g', cp', e', hP7⟩ := own_parts (unhide HO7) (by omega)
      obtain ⟨rfl, rfl⟩ : g' = _ ∧ cp' = _ := by simp at e'; exact ⟨e'.1.symm, e'.2.symm⟩
      refine (mac_any key (some ⟨g', 0, none⟩) (k + 1) cp' qs _ hP7 (by omega) (by rw [unhide HF]; omega) (by omega)).mono ?_
      rintro e w9 ⟨rfl, hb9⟩
      rw [unhide HF]
      have hbe9 := hbe7.trans (hb9.mono hbe7.size)
      clear hb9 hbe7 HRow7 HO7 hP7 e'
      go_wp2_with fail
      refine (mac_any key (some ⟨w9.heap.size, 0, none⟩) 1 1 [t] _ (Parts.new w9 [t]) (by omega) (by simp; omega) (by omega)).mono ?_
      rintro e w10 ⟨rfl, hb10⟩
      rw [show [t].flatten = t from by simp]
      have hbe10 := hbe9.trans (((alloc_below w9 _).trans (hb10.mono (by simp))).mono hbe9.size)
      go_wp2
      go_ret
      exact ⟨rfl, hbe10⟩
end Go.Proofs.Ytdncebdlhoogcaa
