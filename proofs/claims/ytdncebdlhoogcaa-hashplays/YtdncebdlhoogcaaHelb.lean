import Derived.Test.YtdncebdlhoogcaaHela
namespace Go.Proofs.Ytdncebdlhoogcaa
open Go.RowKit
open Sha
/-- Cells of texts. -/
def cT (l : List (List UInt8)) : Array Value := (l.map tS).toArray
theorem cT_get (l : List (List UInt8)) (i : Nat) (h : i < l.length) : (cT l)[i]? = some (.string ⟨(l.getD i []).toArray⟩) := by
  simp [cT, tS, h]
theorem cT_set (l : List (List UInt8)) (i : Nat) (x : List UInt8) : (cT l).setIfInBounds i (.string ⟨x.toArray⟩) = cT (l.set i x) := by
  simp [cT, List.map_set, tS]
def sp : List UInt8 := [115, 112, 97, 114, 101]
/-- A list that is lent, and the first marks behind it. -/
def le (ps : List (List UInt8)) (j : Nat) : List (List UInt8) := ps ++ (List.replicate j sp ++ List.replicate (8 - j) [])
theorem le_len (ps : List (List UInt8)) (j : Nat) (h : j ≤ 8) : (le ps j).length = ps.length + 8 := by simp [le]; omega
theorem le_next (ps : List (List UInt8)) (j : Nat) (h : j < 8) : le ps (j + 1) = (le ps j).set (ps.length + j) sp := by
  unfold le
  rw [List.set_append_right _ _ (by omega), Nat.add_sub_cancel_left, List.set_append_right _ _ (by simp)]
  simp only [List.length_replicate, Nat.sub_self]
  obtain ⟨m, hm⟩ : ∃ m, 8 - j = m + 1 := ⟨7 - j, by omega⟩
  rw [hm, show 8 - (j + 1) = m by omega, List.replicate_succ', List.replicate_succ, List.set_cons_zero]
  simp
theorem made_texts (n : Nat) : (madeCells (Value.string ⟨#[]⟩).cells (n * 1)).toList = List.replicate n (tS []) := by
  apply List.ext_getElem
  · simp [madeCells]
  · intro i h1 h2
    simp [madeCells, Value.cells, Nat.mod_one, tS]
theorem splice_le (ps : List (List UInt8)) : splice (List.replicate (ps.length + 8) (tS [])) 0 (ps.map tS) = (le ps 0).map tS := by
  simp [splice, le]
theorem tS_one (ps : List (List UInt8)) : ∀ v ∈ ps.map tS, v.oneCell' = true := by
  intro v hv
  simp at hv
  obtain ⟨x, _, rfl⟩ := hv
  rfl
theorem sz9 : (Try.prog.info? 9).map (·.size) = some 1 := by kernel_rfl
set_option maxHeartbeats 1000000 in
set_option maxRecDepth 8000 in
theorem lent_any (a : Option Addr) (n cap : Nat) (ps : List (List UInt8)) (w : World) (hp : Parts w a n ps) (hn : n ≤ 4294967296) :
    Calls Try.prog 13 #[.slice a n cap] w fun e w' => e = .returned (.slice (some ⟨w.heap.size, 0, none⟩) (n + 8) (n + 8)) ∧ Row w' w.heap.size (cT (le ps 8)) 9 ∧ Below w.heap.size w w' := by
  obtain ⟨i9, hi, hz0, hz1, hz2⟩ := info_parts info9
  obtain rfl := hp.1
  have HP := hide hp
  clear hp
  go_enter Try.func13, Try.ntmps13
  go_wp2_with (first
    | (refine wpList_make_full _ rfl (.tmp 7) (.tmp 7) 22 rfl w.heap.size 9 i9 (.string ⟨#[]⟩) 1 Try.underlying22 hi hz0 hz1 .i64 .i64 (ps.length + 8) (ps.length + 8) (ps.length + 8) (by rfl) (by rfl) rfl rfl (by rw [hz2]; omega) (by unfold maxLen; omega) (Nat.le_refl _) ?_
       intro w1 hown hgrow
       rw [made_texts] at hown
       have hbe : Below w.heap.size w w1 := (Below.refl _ _).grown hgrow (Nat.le_refl _) (fun k e => by cases e)
       have HR := hide (owns_row hown)
       clear hown hgrow)
    | (refine wpList_copy_splice rfl (.tmp 9) (.tmp 10) 22 22 rfl 9 Try.underlying22 sz9 (some ⟨w.heap.size, 0, none⟩) a (ps.length + 8) (ps.length + 8) ps.length cap (by rfl) (by rfl) w.heap.size 0 _ 9 (unhide HR) (ps.map tS) (by rw [List.length_map]; exact (Nat.min_eq_left (by omega)).symm) ?h1 (by simp) (tS_one ps) w.heap.size w hbe (Nat.le_refl _) ?_
       case h1 =>
         intro h0
         refine ⟨rfl, ?_⟩
         obtain ⟨p, o, e, hc⟩ := (unhide HP).2 (by simp at h0; omega)
         refine ⟨_, e, fun j v hv => ?_⟩
         have hj : j < ps.length := by have := (List.getElem?_eq_some_iff.1 hv).1; simpa using this
         rw [Addr.add_lit, hbe.cell (by exact block_lt_of_cell (hc j (by omega))), hc j (by omega), ← hv]
         simp [tS, hj]
       intro w2 hg2 hb2))
  have hr2 : Row w2 w.heap.size (cT (le ps 0)) 9 := by
    have := unhide hg2
    rw [splice_le] at this
    exact this
  have HR2 := hide hr2
  clear HR hg2 hr2 hbe
  go_wp2
  go_loopw [4] (fun i wr => ∃ j : Nat, j ≤ 8 ∧ i = .int .i64 ((ps.length + j : Nat) : Int) ∧ Row wr w.heap.size (cT (le ps j)) 9 ∧ Below w.heap.size w wr) (fun i _ => ps.length + 8 - (intOf i).toNat)
  case atStart => exact ⟨0, by omega, rfl, unhide HR2, hb2⟩
  case round =>
    clear HR2 hb2
    obtain ⟨j, hj, rfl, hr, hbe⟩ := hrel
    by_cases hlt : j < 8
    · have hc := hr.cell (ps.length + j)
      rw [cT_get _ _ (by rw [le_len ps j hj]; omega)] at hc
      have hz := hr.frozen (ps.length + j)
      have HR := hide hr
      clear hr
      go_wp2
      go_roundw
      case rel =>
        refine ⟨j + 1, by omega, by go_num, ?_, hbe.setCell (Nat.le_refl _) _⟩
        rw [le_next ps j hlt, ← cT_set]
        exact (unhide HR).set _ _
      case measure => simp [intOf]; omega
    · have hj8 : j = 8 := by omega
      have hd : decide (ps.length + j < ps.length + 8) = false := by simp; omega
      have hd' : decide ((ps.length : Int) + (j : Int) < (ps.length : Int) + 8) = false := by simp; omega
      have hd2 : decide (j < 8) = false := by simp; omega
      have hd3 : decide ((j : Int) < 8) = false := by simp; omega
      rw [hj8] at hr
      have HR := hide hr
      clear hr hlt hj8
      go_wp2
      go_ret
      exact ⟨rfl, unhide HR, hbe⟩
theorem le_low (ps : List (List UInt8)) (k : Nat) (h : k < ps.length) : (le ps 8).getD k [] = ps.getD k [] := by
  simp [le, List.getElem?_append_left h]
theorem le_high (ps : List (List UInt8)) (k : Nat) (h : ps.length ≤ k) (h2 : k < ps.length + 8) : (le ps 8).getD k [] = sp := by
  simp only [le, List.getD_eq_getElem?_getD, List.getElem?_append_right h]
  rw [List.getElem?_append_left (by rw [List.length_replicate]; omega), List.getElem?_replicate, if_pos (by omega)]
  rfl
set_option maxHeartbeats 1000000 in
set_option maxRecDepth 8000 in
theorem kept_any (g : Nat) (a : Option Addr) (cap : Nat) (ps : List (List UInt8)) (w : World) (hp : Parts w a ps.length ps) (hr : Row w g (cT (le ps 8)) 9) (hn : ps.length ≤ 4294967296) :
    Calls Try.prog 17 #[.slice (some ⟨g, 0, none⟩) (ps.length + 8) (ps.length + 8), .slice a ps.length cap] w fun e w' => e = .returned (.bool true) ∧ w' = w := by
  have HP := hide hp
  have HR := hide hr
  clear hp hr
  go_enter Try.func17, Try.ntmps17
  go_wp2
  go_loopw [5] (fun i wr => ∃ k : Nat, k ≤ ps.length + 8 ∧ i = .int .i64 k ∧ wr = w) (fun i _ => ps.length + 8 - (intOf i).toNat)
  case atStart => exact ⟨0, by omega, rfl, rfl⟩
  case round =>
    obtain ⟨k, hk, rfl, rfl⟩ := hrel
    by_cases hlt : k < ps.length + 8
    · have hc := (unhide HR).cell k
      rw [cT_get _ _ (by rw [le_len ps 8 (by omega)]; exact hlt)] at hc
      by_cases hkn : k < ps.length
      · obtain ⟨p, o, rfl, hpl, hc2⟩ := (unhide HP).at hkn
        rw [le_low ps k hkn] at hc
        generalize ps.getD k [] = X at *
        go_wp2
        go_roundw
        case rel => exact ⟨k + 1, by omega, by go_num, trivial⟩
        case measure => simp [intOf]; omega
      · rw [le_high ps k (by omega) hlt] at hc
        have hd : decide (k < ps.length) = false := by simp; omega
        unfold sp at hc
        go_wp2
        go_roundw
        case rel => exact ⟨k + 1, by omega, by go_num, trivial⟩
        case measure => simp [intOf]; omega
    · have hd : decide (k < ps.length + 8) = false := by simp; omega
      have hd' : decide ((k : Int) < (ps.length : Int) + 8) = false := by simp; omega
      clear hlt
      go_wp2
      go_ret
      exact ⟨rfl, rfl⟩
theorem rev_next (ps : List (List UInt8)) (k : Nat) (h : k < ps.length) : ps.reverse.take (k + 1) = ps.reverse.take k ++ [ps.getD (ps.length - 1 - k) []] := by
  rw [List.take_succ_eq_append_getElem (by simpa using h)]
  simp [show ps.length - 1 - k < ps.length by omega]
set_option maxHeartbeats 1000000 in
set_option maxRecDepth 8000 in
theorem backward_any (a : Option Addr) (cap : Nat) (ps : List (List UInt8)) (w : World) (hp : Parts w a ps.length ps) (hn : ps.length ≤ 4294967296) :
    Calls Try.prog 18 #[.slice a ps.length cap] w fun e w' => ∃ v, e = .returned v ∧ w'.ownsRow w.heap.size 9 1 v ps.length (ps.reverse.map tS) ∧ Below w.heap.size w w' := by
  obtain ⟨i9, hi, hz0, hz1, hz2⟩ := info_parts info9
  have HP := hide hp
  clear hp
  go_enter Try.func18, Try.ntmps18
  go_wp2
  go_loopw [3, 4] (fun v i wr => ∃ k : Nat, k ≤ ps.length ∧ i = .int .i64 ((ps.length : Int) - 1 - (k : Int)) ∧ wr.ownsRow w.heap.size 9 1 v k ((ps.reverse.take k).map tS) ∧ Below w.heap.size w wr) (fun _ i _ => (intOf i + 1).toNat)
  case atStart => exact ⟨0, by omega, by simp, World.ownsRow_nil _ _ _ _, Below.refl _ _⟩
  case round =>
    obtain ⟨k, hk, rfl, hown, hbe⟩ := hrel
    by_cases hlt : k < ps.length
    · obtain ⟨p, o, rfl, hpl, hc0⟩ := (unhide HP).at (show ps.length - 1 - k < ps.length by omega)
      have hc := (hbe.cell (by exact hpl)).trans hc0
      have hnx := hide (rev_next ps k hlt)
      generalize ps.getD (ps.length - 1 - k) [] = X at *
      have hge : (0 : Int) ≤ (ps.length : Int) - 1 - (k : Int) := by omega
      have HO := hide hown
      clear hown hc0
      go_wp2_with (at_builtin; refine wpList_append_own _ rfl _ _ 22 rfl w.heap.size 9 i9 (.string ⟨#[]⟩) 1 16 Try.underlying22 hi hz0 hz1 hz2 rfl (by decide) _ _ _ rfl ((unhide HO).alloc _) ⟨wr.heap.size, 0, none⟩ 1 1 [tS X] rfl rfl ?c1 ?c2 ?c3 ?c4 ?c5 ?_)
      case c1 =>
        intro j' u' hj'
        match j', hj' with
        | 0, hj' => simp at hj'; subst hj'; simp [Addr.add, tS]
      case c2 => intro u' hu'; simp at hu'; subst hu'; rfl
      case c3 => unfold maxLen; omega
      case c4 => omega
      case c5 => have := hbe.size; simp; omega
      intro v' w3 hown' hgrow _
      have hbe3 : Below w.heap.size w w3 := (hbe.alloc hbe.size _).grown hgrow (by simp; have := hbe.size; omega) (fun q e => ((unhide HO).lt q e).1)
      have hown3 : w3.ownsRow w.heap.size 9 1 v' (k + 1) ((ps.reverse.take (k + 1)).map tS) := by
        rw [unhide hnx, List.map_append, List.map_take, List.map_reverse]
        exact hown'
      have HO3 := hide hown3
      clear hown' hgrow hown3 HO hc hbe
      go_wp2
      go_roundw
      case rel => exact ⟨k + 1, by omega, by go_num, unhide HO3, hbe3⟩
      case measure => simp [intOf]; omega
    · have hkn : k = ps.length := by omega
      have hd : decide ((0 : Int) ≤ (ps.length : Int) - 1 - (k : Int)) = false := by simp; omega
      have e : ps.reverse.take k = ps.reverse := List.take_of_length_le (by simp; omega)
      rw [e, hkn] at hown
      have HO := hide hown
      clear hown hlt e
      go_wp2
      go_ret
      exact ⟨_, rfl, unhide HO, hbe⟩
end Go.Proofs.Ytdncebdlhoogcaa
