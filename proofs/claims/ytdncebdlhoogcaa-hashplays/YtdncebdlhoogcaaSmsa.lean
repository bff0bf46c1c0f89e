import Derived.Test.YtdncebdlhoogcaaHelb
import Derived.Test.YtdncebdlhoogcaaSumr
namespace Go.Proofs.Ytdncebdlhoogcaa
open Go.RowKit
open Sha
theorem own_slice {w : World} {base n : Nat} {v : Value} {ps : List (List UInt8)} (h : w.ownsRow base 9 1 v n (ps.map tS)) : ∃ a cap, v = .slice a n cap ∧ Parts w a n ps ∧ (∀ x, a = some x → base ≤ x.block ∧ x.block < w.heap.size) := by
  have hl : n = ps.length := by simpa using h.1.symm
  rcases h.2 with ⟨rfl, rfl⟩ | ⟨g, cap, cur, e1, e2, e3, _⟩
  · exact ⟨none, 0, rfl, ⟨hl, fun q => by omega⟩, fun x q => by cases q⟩
  · subst e1
    refine ⟨_, cap, rfl, ⟨hl, fun _ => ⟨g, 0, rfl, fun j hj => ?_⟩⟩, fun x q => ?_⟩
    · rw [Nat.zero_add, h.cellAt j (by omega)]
      have : j < ps.length := by omega
      simp [tS, this]
    · obtain rfl := Option.some.inj q
      exact ⟨e2, (Array.getElem?_eq_some_iff.1 e3).1⟩
theorem Parts.row {w : World} {g : Nat} {ps rest : List (List UInt8)} (h : Row w g (cT (ps ++ rest)) 9) : Parts w (some ⟨g, 0, none⟩) ps.length ps := by
  refine ⟨rfl, fun _ => ⟨g, 0, rfl, fun j hj => ?_⟩⟩
  rw [Nat.zero_add, h.cell, cT_get _ _ (by simp; omega)]
  simp [List.getElem?_append_left hj]
theorem Parts.only {w w' : World} {g : Nat} {a : Option Addr} {n : Nat} {ps : List (List UInt8)} (h : Parts w a n ps) (ho : Only g w w') (hne : 0 < n → ∀ x, a = some x → x.block ≠ g) : Parts w' a n ps := by
  refine ⟨h.1, fun hn => ?_⟩
  obtain ⟨p, o, e, hc⟩ := h.2 hn
  refine ⟨p, o, e, fun j hj => ?_⟩
  have hp := block_lt_of_cell (hc j hj)
  rw [← hc j hj]
  unfold World.cell?
  rw [ho.block p hp (hne hn _ e)]
/-- Texts are laid over the first places of a row. -/
theorem wpList_copy_texts {ops : Array Oper} {rest : List Oper} {o : Oper} {a : Act} {w : World} {Q : Exit → Act → World → Prop} (hgd : o.guard = none) (d s : Operand)
    (ho : o.op = .call { callee := .builtin .copy, args := #[d, s], argTypes := #[22, 22] }) (g n dLen dCap sCap : Nat) (sa : Option Addr) (hd : a.eval d = .slice (some ⟨g, 0, none⟩) dLen dCap) (hs : a.eval s = .slice sa n sCap)
    (cur ps : List (List UInt8)) (hg : Row w g (cT cur) 9) (hp : Parts w sa n ps) (hle : n ≤ dLen) (hcur : n ≤ cur.length)
    (h : ∀ w', Row w' g (cT (ps ++ cur.drop n)) 9 → Only g w w' → wpList Try.prog ops Q rest (a.put o.dst (goInt n)) w') : wpList Try.prog ops Q (o :: rest) a w := by
  have hn := hp.1
  by_cases h0 : n = 0
  · subst h0
    obtain rfl : ps = [] := List.eq_nil_of_length_eq_zero hn.symm
    exact wpList_copy_nothing hgd d s 22 22 ho 9 Try.underlying22 sz9 _ sa dLen dCap 0 sCap hd hs (by simp) (h w (by simpa using hg) (Only.refl _ _))
  · obtain ⟨p, of, e, hc⟩ := hp.2 (by omega)
    subst e
    have hl : (ps.map tS).length = n := by simp; omega
    refine wpList_copy_own hgd d s 22 22 ho 9 Try.underlying22 sz9 g 0 dLen dCap ⟨p, of, none⟩ n sCap hd hs (cT cur) 9 hg (ps.map tS) (by rw [hl]; exact (Nat.min_eq_left hle).symm) ?_ (by simp [cT]; omega) (tS_one ps) ?_
    · intro j v hv
      have hj : j < ps.length := by have := (List.getElem?_eq_some_iff.1 hv).1; simpa using this
      rw [Addr.add_lit, hc j (by omega), ← hv]
      simp [tS, hj]
    · rw [hl]
      have e2 : ((cT cur).toList.take 0 ++ (ps.map tS ++ (cT cur).toList.drop (0 + n))).toArray = cT (ps ++ cur.drop n) := by simp [cT]
      rw [e2]
      exact h _ (Row.setRow hg _) (Only.setRow _ _)
theorem le_drop (ps : List (List UInt8)) : (le ps 8).drop ps.length = List.replicate 8 sp := by simp [le]
theorem le_eq (ps : List (List UInt8)) : le ps 8 = ps ++ List.replicate 8 sp := by simp [le]
/-- What stays while the calls are made: the parts, what was lent, and nothing that was there has changed. -/
structure HL (w0 w : World) (a : Option Addr) (ps : List (List UInt8)) (g : Nat) (cur : List (List UInt8)) : Prop where
  hp : Parts w a ps.length ps
  hr : Row w g (cT cur) 9
  hb : Below w0.heap.size w0 w
  hg : w0.heap.size ≤ g
  ha : 0 < ps.length → ∀ x, a = some x → x.block ≠ g
theorem HL.below {w0 w w' : World} {a : Option Addr} {ps cur : List (List UInt8)} {g : Nat} (h : HL w0 w a ps g cur) (b : Below w.heap.size w w') : HL w0 w' a ps g cur :=
  ⟨h.hp.below b, h.hr.below b h.hr.lt, h.hb.trans (b.mono h.hb.size), h.hg, h.ha⟩
theorem HL.only {w0 w w' : World} {a : Option Addr} {ps cur cur' : List (List UInt8)} {g : Nat} (h : HL w0 w a ps g cur) (ho : Only g w w') (hr : Row w' g (cT cur') 9) : HL w0 w' a ps g cur' :=
  ⟨h.hp.only ho h.ha, hr, ho.below h.hb h.hg h.hb.size, h.hg, h.ha⟩
theorem HL.own {w0 w : World} {a : Option Addr} {ps cur rest : List (List UInt8)} {g : Nat} (h : HL w0 w a ps g (cur ++ rest)) : Parts w (some ⟨g, 0, none⟩) cur.length cur := Parts.row h.hr
theorem rev_flat_le (ps : List (List UInt8)) : ps.reverse.flatten.length = ps.flatten.length := by
  induction ps with
  | nil => rfl
  | cons x l ih => simp [ih]; omega
set_option maxHeartbeats 2000000 in
set_option maxRecDepth 8000 in
theorem sums_walk (a : Option Addr) (cap : Nat) (ps : List (List UInt8)) (w : World) (hp : Parts w a ps.length ps) (hn : ps.length ≤ 140737488351232) (hps : ∀ j, (ps.getD j []).length ≤ 140737488351232) :
    Calls Try.prog 3 #[.slice a ps.length cap] w fun e w' => e = .returned (.bool true) ∧ Below w.heap.size w w' := by
  have HP := hide hp
  have HPS := hide hps
  clear hp hps
  go_enter Try.func3, Try.ntmps3
  go_wp2_with fail
  refine (beyond_any [] a ps.length cap ps w (unhide HP) hn (by simp) (unhide HPS)).mono ?_
  rintro e w0 ⟨rfl, r, rfl, hr⟩
  cases r
  case true =>
    go_wp2
    go_ret
    exact ⟨rfl, Below.refl _ _⟩
  case false =>
    have hb0 := hr rfl
    have hlen : ps.length ≤ 2147483647 := by unfold cnt at hb0; omega
    have hfl : ps.flatten.length ≤ 2147483647 := by unfold cnt at hb0; omega
    clear hr hb0 HPS hn
    go_wp2_with fail
    refine (known_any w0).mono ?_
    rintro e w1 ⟨rfl, hb1⟩
    have HP1 := hide ((unhide HP).below hb1)
    go_wp2_with fail
    refine (lent_any a ps.length cap ps w1 (unhide HP1) (by omega)).mono ?_
    rintro e w2 ⟨rfl, hr2, hb2⟩
    have H2 : Hid (HL w0 w2 a ps w1.heap.size (ps ++ List.replicate 8 sp)) := hide ⟨(unhide HP1).below hb2, by rw [← le_eq]; exact hr2, hb1.trans (hb2.mono hb1.size), hb1.size, fun h0 x e => by
      obtain ⟨p, o, e', hp, _⟩ := (unhide HP).at h0
      rw [e] at e'
      cases e'
      have := hb1.size
      simp only
      omega⟩
    clear HP1 hr2 hb1 hb2 HP
    generalize w1.heap.size = g at *
    go_wp2_with fail
    refine (joined_any a ps.length cap ps w2 (unhide H2).hp (by omega) (by omega)).mono ?_
    rintro e w3 ⟨rfl, hb3⟩
    have H3 := hide ((unhide H2).below hb3)
    clear H2 hb3
    go_wp2_with fail
    refine (refsum_any ps.flatten w3 (by omega)).mono ?_
    rintro e w4 ⟨rfl, hb4⟩
    have H4 := hide ((unhide H3).below hb4)
    clear H3 hb4
    go_wp2_with fail
    refine (sum_any (some ⟨g, 0, none⟩) ps.length (ps.length + 8) ps w4 (unhide H4).own (by omega) (by omega)).mono ?_
    rintro e w5 ⟨rfl, hb5⟩
    have H5 := hide ((unhide H4).below hb5)
    clear H4 hb5
    go_wp2_with fail
    refine (sum_any (some ⟨g, 0, none⟩) ps.length (ps.length + 8) ps w5 (unhide H5).own (by omega) (by omega)).mono ?_
    rintro e w6 ⟨rfl, hb6⟩
    have H6 := hide ((unhide H5).below hb6)
    clear H5 hb6
    go_wp2_with fail
    refine (kept_any g a cap ps w6 (unhide H6).hp (by rw [le_eq]; exact (unhide H6).hr) (by omega)).mono ?_
    rintro e w7 ⟨rfl, rfl⟩
    go_wp2_with fail
    refine (backward_any a cap ps w7 (unhide H6).hp (by omega)).mono ?_
    rintro e w8 ⟨v, rfl, hown, hb8⟩
    obtain ⟨a2, cap2, rfl, hp2, hl2⟩ := own_slice hown
    have hgl : g < w7.heap.size := (unhide H6).hr.lt
    have hne2 : 0 < ps.length → ∀ x, a2 = some x → x.block ≠ g := fun _ x e => by have := hl2 x e; omega
    have H8 := hide ((unhide H6).below hb8)
    have HP2 := hide hp2
    have HN2 := hide hne2
    clear H6 hown hb8 hp2 hl2 hne2 hgl
    have hrl : ps.reverse.length = ps.length := List.length_reverse
    have hrf := rev_flat_le ps
    have HRL := hide hrl
    have HRF := hide hrf
    clear hrl hrf
    generalize ps.reverse = rs at *
    go_wp2_with (refine wpList_copy_texts rfl (.tmp 35) (.tmp 36) rfl g ps.length (ps.length + 8) (ps.length + 8) cap2 a2 (by rfl) (by rfl) (ps ++ List.replicate 8 sp) rs (unhide H8).hr (unhide HP2) (by omega) (by rw [List.length_append]; omega) ?_; intro w9 hr9 ho9)
    have H9 : Hid (HL w0 w9 a ps g (rs ++ List.replicate 8 sp)) := hide (by
      refine (unhide H8).only ho9 ?_
      have e : (ps ++ List.replicate 8 sp).drop ps.length = List.replicate 8 sp := List.drop_left
      rw [← e]
      exact hr9)
    have HP9 := hide ((unhide HP2).only ho9 (unhide HN2))
    clear H8 HP2 HN2 hr9 ho9
    refine (sum_any (some ⟨g, 0, none⟩) ps.length (ps.length + 8) rs w9 (by have := (unhide H9).own; rwa [unhide HRL] at this) (by omega) (by rw [unhide HRF]; omega)).mono ?_
    rintro e w10 ⟨rfl, hb10⟩
    have H10 := hide ((unhide H9).below hb10)
    have HP10 := hide ((unhide HP9).below hb10)
    clear H9 HP9 hb10
    go_wp2_with fail
    refine (joined_any a2 ps.length cap2 rs w10 (unhide HP10) (by omega) (by rw [unhide HRF]; omega)).mono ?_
    rintro e w11 ⟨rfl, hb11⟩
    have H11 := hide ((unhide H10).below hb11)
    clear H10 HP10 hb11
    go_wp2_with fail
    refine (refsum_any rs.flatten w11 (by rw [unhide HRF]; omega)).mono ?_
    rintro e w12 ⟨rfl, hb12⟩
    have H12 := hide ((unhide H11).below hb12)
    clear H11 hb12
    go_wp2
    go_ret
    exact ⟨rfl, (unhide H12).hb⟩
end Go.Proofs.Ytdncebdlhoogcaa
