import Derived.Test.YtdncebdlhoogcaaSmsa
import Derived.Test.YtdncebdlhoogcaaMacr
namespace Go.Proofs.Ytdncebdlhoogcaa
open Go.RowKit
open Sha
set_option maxHeartbeats 2000000 in
set_option maxRecDepth 8000 in
theorem macs_walk (key : List UInt8) (a : Option Addr) (cap : Nat) (ps : List (List UInt8)) (w : World) (hp : Parts w a ps.length ps) (hn : ps.length ≤ 140737488351232) (hps : ∀ j, (ps.getD j []).length ≤ 140737488351232) (hkey : key.length ≤ 140737488351232) :
    Calls Try.prog 4 #[.string ⟨key.toArray⟩, .slice a ps.length cap] w fun e w' => e = .returned (.bool true) ∧ Below w.heap.size w w' := by
  have HP := hide hp
  have HPS := hide hps
  clear hp hps
  go_enter Try.func4, Try.ntmps4
  go_wp2_with fail
  refine (beyond_any key a ps.length cap ps w (unhide HP) hn hkey (unhide HPS)).mono ?_
  rintro e w0 ⟨rfl, r, rfl, hr⟩
  cases r
  case true =>
    go_wp2
    go_ret
    exact ⟨rfl, Below.refl _ _⟩
  case false =>
    have hb0 := hr rfl
    have hlen : ps.length ≤ 2147483647 := by unfold cnt at hb0; omega
    have hfl : ps.flatten.length ≤ 2147483647 := by unfold cnt at hb0; omega
    have hkl : key.length ≤ 2147483647 := by omega
    clear hr hb0 HPS hn hkey
    go_wp2_with fail
    refine (known_any w0).mono ?_
    rintro e w1 ⟨rfl, hb1⟩
    have HP1 := hide ((unhide HP).below hb1)
    go_wp2_with fail
    refine (lent_any a ps.length cap ps w1 (unhide HP1) (by omega)).mono ?_
    rintro e w2 ⟨rfl, hr2, hb2⟩
    have H2 : Hid (HL w0 w2 a ps w1.heap.size (ps ++ List.replicate 8 sp)) := hide ⟨(unhide HP1).below hb2, by rw [← le_eq]; exact hr2, hb1.trans (hb2.mono hb1.size), hb1.size, fun h0 x e => by
      obtain ⟨p, o, e', hp, _⟩ := (unhide HP).at h0
      rw [e] at e'
      cases e'
      have := hb1.size
      simp only
      omega⟩
    clear HP1 hr2 hb1 hb2 HP
    generalize w1.heap.size = g at *
    go_wp2_with fail
    refine (joined_any a ps.length cap ps w2 (unhide H2).hp (by omega) (by omega)).mono ?_
    rintro e w3 ⟨rfl, hb3⟩
    have H3 := hide ((unhide H2).below hb3)
    clear H2 hb3
    go_wp2_with fail
    refine (refmac_any key ps.flatten w3 (by omega) (by omega)).mono ?_
    rintro e w4 ⟨rfl, hb4⟩
    have H4 := hide ((unhide H3).below hb4)
    clear H3 hb4
    go_wp2_with fail
    refine (mac_any key (some ⟨g, 0, none⟩) ps.length (ps.length + 8) ps w4 (unhide H4).own (by omega) (by omega) (by omega)).mono ?_
    rintro e w5 ⟨rfl, hb5⟩
    have H5 := hide ((unhide H4).below hb5)
    clear H4 hb5
    go_wp2_with fail
    refine (mac_any key (some ⟨g, 0, none⟩) ps.length (ps.length + 8) ps w5 (unhide H5).own (by omega) (by omega) (by omega)).mono ?_
    rintro e w6 ⟨rfl, hb6⟩
    have H6 := hide ((unhide H5).below hb6)
    clear H5 hb6
    go_wp2_with fail
    refine (kept_any g a cap ps w6 (unhide H6).hp (by rw [le_eq]; exact (unhide H6).hr) (by omega)).mono ?_
    rintro e w7 ⟨rfl, rfl⟩
    go_wp2_with fail
    refine (backward_any a cap ps w7 (unhide H6).hp (by omega)).mono ?_
    rintro e w8 ⟨v, rfl, hown, hb8⟩
    obtain ⟨a2, cap2, rfl, hp2, hl2⟩ := own_slice hown
    have hgl : g < w7.heap.size := (unhide H6).hr.lt
    have hne2 : 0 < ps.length → ∀ x, a2 = some x → x.block ≠ g := fun _ x e => by have := hl2 x e; omega
    have H8 := hide ((unhide H6).below hb8)
    have HP2 := hide hp2
    have HN2 := hide hne2
    clear H6 hown hb8 hp2 hl2 hne2 hgl
    have hrl : ps.reverse.length = ps.length := List.length_reverse
    have hrf := rev_flat_le ps
    have HRL := hide hrl
    have HRF := hide hrf
    clear hrl hrf
    generalize ps.reverse = rs at *
    go_wp2_with (refine wpList_copy_texts rfl (.tmp 41) (.tmp 42) rfl g ps.length (ps.length + 8) (ps.length + 8) cap2 a2 (by rfl) (by rfl) (ps ++ List.replicate 8 sp) rs (unhide H8).hr (unhide HP2) (by omega) (by rw [List.length_append]; omega) ?_; intro w9 hr9 ho9)
    have H9 : Hid (HL w0 w9 a ps g (rs ++ List.replicate 8 sp)) := hide (by
      refine (unhide H8).only ho9 ?_
      have e : (ps ++ List.replicate 8 sp).drop ps.length = List.replicate 8 sp := List.drop_left
      rw [← e]
      exact hr9)
    have HP9 := hide ((unhide HP2).only ho9 (unhide HN2))
    clear H8 HP2 HN2 hr9 ho9
    refine (mac_any key (some ⟨g, 0, none⟩) ps.length (ps.length + 8) rs w9 (by have := (unhide H9).own; rwa [unhide HRL] at this) (by omega) (by rw [unhide HRF]; omega) (by omega)).mono ?_
    rintro e w10 ⟨rfl, hb10⟩
    have H10 := hide ((unhide H9).below hb10)
    have HP10 := hide ((unhide HP9).below hb10)
    clear H9 HP9 hb10
    go_wp2_with fail
    refine (joined_any a2 ps.length cap2 rs w10 (unhide HP10) (by omega) (by rw [unhide HRF]; omega)).mono ?_
    rintro e w11 ⟨rfl, hb11⟩
    have H11 := hide ((unhide H10).below hb11)
    clear H10 HP10 hb11
    go_wp2_with fail
    refine (refmac_any key rs.flatten w11 (by omega) (by rw [unhide HRF]; omega)).mono ?_
    rintro e w12 ⟨rfl, hb12⟩
    have H12 := hide ((unhide H11).below hb12)
    clear H11 hb12
    go_wp2
    go_ret
    exact ⟨rfl, (unhide H12).hb⟩
end Go.Proofs.Ytdncebdlhoogcaa
