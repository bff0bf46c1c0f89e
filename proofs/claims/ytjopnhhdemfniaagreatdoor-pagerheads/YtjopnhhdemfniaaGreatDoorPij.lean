import Derived.Test.YtjopnhhdemfniaaGreatDoorPii
namespace Go.Proofs.YtjopnhhdemfniaaGreatDoor
open Go.RowKit
set_option maxHeartbeats 8000000
set_option maxRecDepth 8000
theorem u8_andNot (a : UInt8) : bits .andNot .u8 (a.toNat : Int) 1 = ((a &&& 254).toNat : Int) := by
  have : ∀ x : Fin 256, bits .andNot .u8 ((UInt8.ofNat x.val).toNat : Int) 1 = (((UInt8.ofNat x.val) &&& 254).toNat : Int) := by decide
  have h := this ⟨a.toNat, a.toNat_lt⟩
  simpa using h
theorem u8_or1 (a : UInt8) : bits .or .u8 (a.toNat : Int) 1 = ((a ||| 1).toNat : Int) := by
  have : ∀ x : Fin 256, bits .or .u8 ((UInt8.ofNat x.val).toNat : Int) 1 = (((UInt8.ofNat x.val) ||| 1).toNat : Int) := by decide
  have h := this ⟨a.toNat, a.toNat_lt⟩
  simpa using h
/-- Bits of some blocks turned, one by one. -/
def trn (f : UInt8 → UInt8) (u : Us) (l : List Int) : Us := l.foldl (fun u n => u.set n.toNat (f (u.getD n.toNat 0))) u
theorem trn_next (f : UInt8 → UInt8) (u : Us) (l : List Int) (k : Nat) (hk : k < l.length) : trn f u (l.take (k + 1)) = (trn f u (l.take k)).set (l.getD k 0).toNat (f ((trn f u (l.take k)).getD (l.getD k 0).toNat 0)) := by
  unfold trn
  rw [List.take_succ_eq_append_getElem hk, List.foldl_append]
  simp [hk]
theorem trn_len (f : UInt8 → UInt8) (u : Us) (l : List Int) : (trn f u l).length = u.length := by
  unfold trn
  induction l generalizing u with
  | nil => rfl
  | cons n l ih => rw [List.foldl_cons, ih, List.length_set]
theorem Uls.set {w : World} {g cap : Nat} {u : Us} (h : Uls w (.slice (some ⟨g, 0, none⟩) u.length cap) u) (j : Nat) (x : UInt8) : Uls (w.setCell ⟨g, j, none⟩ (.int .u8 (x.toNat : Int))) (.slice (some ⟨g, 0, none⟩) u.length cap) (u.set j x) := by
  have := owns_set h j (B x)
  unfold Uls
  rw [List.length_set, show (u.set j x).map B = (u.map B).set j (B x) by rw [List.map_set]]
  exact this
def after (u : Us) (fresh gone : List Int) : Us := trn (· ||| 1) (trn (· &&& 254) u gone) fresh
theorem turned_any {v : Value} {u : Us} {w : World} (h : Uls w v u) (h0 : 0 < u.length) (hl : u.length ≤ 1000000) (a1 a2 : Option Addr) (n1 n2 c1 c2 : Nat) (fresh gone : List Int) (hf : Ins w a1 n1 fresh) (hg : Ins w a2 n2 gone) (hfi : ∀ k, k < n1 → 0 ≤ fresh.getD k 0 ∧ fresh.getD k 0 < u.length) (hgi : ∀ k, k < n2 → 0 ≤ gone.getD k 0 ∧ gone.getD k 0 < u.length) (hn1 : n1 ≤ 1000000000000) (hn2 : n2 ≤ 1000000000000) :
    Calls Tryz.prog 128 #[v, .slice a1 n1 c1, .slice a2 n2 c2] w fun e w' => ∃ V, e = .returned V ∧ Uls w' V (after u fresh gone) ∧ (∀ k, V.ownBlock = some k → w.heap.size ≤ k) ∧ Below w.heap.size w w' := by
  have H0 := hide (cloneU_any h h0 hl)
  have hN1 := hf.1
  have hN2 := hg.1
  have HF := hide hf
  have HG := hide hg
  have HFI := hide hfi
  have HGI := hide hgi
  have HN1 := hide hN1
  have HN2 := hide hN2
  obtain ⟨q, cap, rfl⟩ := owns_form h
  clear h hf hg hfi hgi hN1 hN2
  generalize hul : u.length = ul at *
  have HUL := hide hul
  clear hul
  go_enter Tryz.func128, Tryz.ntmps128
  go_wp2_with fail
  refine (unhide H0).mono ?_
  rintro e w1 ⟨V, rfl, u1, v1, b1⟩
  obtain ⟨gg, cc, cur, rfl, hgg, _⟩ := owns_at u1 (by rw [unhide HUL]; exact h0)
  have hge : w.heap.size ≤ gg := v1 gg rfl
  have HU1 := hide u1
  have HB1 := hide b1
  rw [unhide HUL]
  clear u1 v1 b1 hgg H0
  go_wp2
  go_loopw [16] (fun i wr => ∃ k : Nat, k ≤ n2 ∧ i = .int .i64 k ∧ Uls wr (.slice (some ⟨gg, 0, none⟩) ul cc) (trn (· &&& 254) u (gone.take k)) ∧ Below w.heap.size w wr) (fun i _ => n2 - (Go.RowKit.intOf i).toNat)
  case atStart => exact ⟨0, by omega, rfl, by have := unhide HU1; rw [unhide HUL] at this; exact this, unhide HB1⟩
  case round =>
    clear HU1 HB1
    obtain ⟨k, hk, rfl, hu, hb⟩ := hrel
    have htl : (trn (· &&& 254) u (gone.take k)).length = ul := by rw [trn_len]; exact unhide HUL
    by_cases hlt : k < n2
    · have hlt' : (k : Int) < (n2 : Int) := by omega
      obtain ⟨p, o, rfl, hpl, hc0⟩ := ((unhide HG).below hb).at hlt
      obtain ⟨i0, i1⟩ := unhide HGI k hlt
      have HNX := hide (trn_next (· &&& 254) u gone k (by have := unhide HN2; omega))
      generalize gone.getD k 0 = z at *
      obtain ⟨j, rfl⟩ : ∃ j : Nat, z = (j : Int) := ⟨z.toNat, by omega⟩
      rw [Int.toNat_natCast] at HNX
      have hj : j < ul := by omega
      rw [← htl] at hu
      obtain ⟨g2, cap2, e2, hg2, hc2⟩ := hu.at (show j < (trn (· &&& 254) u (gone.take k)).length by omega)
      have hs := hu.set j ((trn (· &&& 254) u (gone.take k)).getD j 0 &&& 254)
      rw [htl, ← unhide HNX] at hs
      cases e2
      have ha := u8_andNot ((trn (· &&& 254) u (gone.take k)).getD j 0)
      rw [htl] at hu
      obtain ⟨_, _, cu, eu, hcu, _⟩ := owns_at (show wr.ownsRow 0 5 1 (.slice (some ⟨gg, 0, none⟩) ul cc) (trn (· &&& 254) u (gone.take k)).length _ from hu) (by omega)
      have hfz : wr.frozen? ⟨gg, j, none⟩ = false := by cases eu; exact frz hcu j
      have hxx := ((trn (· &&& 254) u (gone.take k)).getD j 0).toNat_lt
      have hyy := ((trn (· &&& 254) u (gone.take k)).getD j 0 &&& 254).toNat_lt
      generalize ((trn (· &&& 254) u (gone.take k)).getD j 0 &&& 254).toNat = y at *
      generalize ((trn (· &&& 254) u (gone.take k)).getD j 0).toNat = x at *
      have HS := hide hs
      have HB := hide (hb.setCell (p := ⟨gg, j, none⟩) hge (.int .u8 (y : Int)))
      clear hs hb hu htl hcu eu
      go_wp2
      go_round
      case measure => simp [Go.RowKit.intOf]; omega
      case rel => exact ⟨k + 1, by omega, by simp, unhide HS, unhide HB⟩
    · have hlt' : ¬ (k : Int) < (n2 : Int) := by omega
      rw [List.take_of_length_le (by have := unhide HN2; omega)] at hu htl
      obtain ⟨U2, hU2⟩ : ∃ U2, U2 = trn (· &&& 254) u gone := ⟨_, rfl⟩
      rw [← hU2] at hu htl
      have HA := hide (show after u fresh gone = trn (· ||| 1) U2 fresh by rw [hU2]; rfl)
      have HU := hide hu
      have HB := hide hb
      have HTL := hide htl
      clear hu hb htl hU2
      go_wp2
      go_loopw [29] (fun i wq => ∃ k : Nat, k ≤ n1 ∧ i = .int .i64 k ∧ Uls wq (.slice (some ⟨gg, 0, none⟩) ul cc) (trn (· ||| 1) U2 (fresh.take k)) ∧ Below w.heap.size w wq) (fun i _ => n1 - (Go.RowKit.intOf i).toNat)
      case atStart => exact ⟨0, by omega, rfl, unhide HU, unhide HB⟩
      case round =>
        clear HU HB
        obtain ⟨k, hk, rfl, hu, hb⟩ := hrel
        have htl : (trn (· ||| 1) U2 (fresh.take k)).length = ul := by rw [trn_len]; exact unhide HTL
        by_cases hlt : k < n1
        · have hlt' : (k : Int) < (n1 : Int) := by omega
          obtain ⟨p, o, rfl, hpl, hc0⟩ := ((unhide HF).below hb).at hlt
          obtain ⟨i0, i1⟩ := unhide HFI k hlt
          have HNX := hide (trn_next (· ||| 1) U2 fresh k (by have := unhide HN1; omega))
          generalize fresh.getD k 0 = z at *
          obtain ⟨j, rfl⟩ : ∃ j : Nat, z = (j : Int) := ⟨z.toNat, by omega⟩
          rw [Int.toNat_natCast] at HNX
          have hj : j < ul := by omega
          rw [← htl] at hu
          obtain ⟨g2, cap2, e2, hg2, hc2⟩ := hu.at (show j < (trn (· ||| 1) U2 (fresh.take k)).length by omega)
          have hs := hu.set j ((trn (· ||| 1) U2 (fresh.take k)).getD j 0 ||| 1)
          rw [htl, ← unhide HNX] at hs
          cases e2
          have ha := u8_or1 ((trn (· ||| 1) U2 (fresh.take k)).getD j 0)
          rw [htl] at hu
          obtain ⟨_, _, cu, eu, hcu, _⟩ := owns_at (show wr.ownsRow 0 5 1 (.slice (some ⟨gg, 0, none⟩) ul cc) (trn (· ||| 1) U2 (fresh.take k)).length _ from hu) (by omega)
          have hfz : wr.frozen? ⟨gg, j, none⟩ = false := by cases eu; exact frz hcu j
          have hxx := ((trn (· ||| 1) U2 (fresh.take k)).getD j 0).toNat_lt
          have hyy := ((trn (· ||| 1) U2 (fresh.take k)).getD j 0 ||| 1).toNat_lt
          generalize ((trn (· ||| 1) U2 (fresh.take k)).getD j 0 ||| 1).toNat = y at *
          generalize ((trn (· ||| 1) U2 (fresh.take k)).getD j 0).toNat = x at *
          have HS := hide hs
          have HB := hide (hb.setCell (p := ⟨gg, j, none⟩) hge (.int .u8 (y : Int)))
          clear hs hb hu htl hcu eu
          go_wp2
          go_round
          case measure => simp [Go.RowKit.intOf]; omega
          case rel => exact ⟨k + 1, by omega, by simp, unhide HS, unhide HB⟩
        · have hlt' : ¬ (k : Int) < (n1 : Int) := by omega
          rw [List.take_of_length_le (by have := unhide HN1; omega)] at hu
          have HU := hide hu
          have HB := hide hb
          clear hu hb htl
          go_wp2
          go_ret
          refine ⟨_, rfl, ?_, fun i hi => ?_, unhide HB⟩
          · rw [unhide HA]; exact unhide HU
          · cases hi; exact hge
end Go.Proofs.YtjopnhhdemfniaaGreatDoor
