import Derived.Test.YtdncebdlhoogcaaCutsA
import Derived.Test.YtdncebdlhoogcaaBiga
import Derived.Lib.AppendStr
import Derived.Laws.CopyOwn
namespace Go.Proofs.Ytdncebdlhoogcaa
open Go.RowKit
open Sha
theorem Parts.at {w : World} {a : Option Addr} {n : Nat} {ps : List (List UInt8)} (h : Parts w a n ps) {k : Nat} (hk : k < n) : ∃ p o, a = some ⟨p, o, none⟩ ∧ p < w.heap.size ∧ w.cell? ⟨p, o + k, none⟩ = some (.string ⟨(ps.getD k []).toArray⟩) := by
  obtain ⟨p, o, e, hc⟩ := h.2 (by omega)
  exact ⟨p, o, e, block_lt_of_cell (hc k hk), hc k hk⟩
theorem Parts.below {w w' : World} {a : Option Addr} {n : Nat} {ps : List (List UInt8)} (h : Parts w a n ps) (hb : Below w.heap.size w w') : Parts w' a n ps := by
  refine ⟨h.1, fun hn => ?_⟩
  obtain ⟨p, o, e, hc⟩ := h.2 hn
  exact ⟨p, o, e, fun j hj => (hb.cell (by exact block_lt_of_cell (hc j hj))).trans (hc j hj)⟩
/-- How much was counted: a text's bytes and one more. -/
def cnt (ps : List (List UInt8)) : Nat := ps.length + ps.flatten.length
theorem cnt_next (ps : List (List UInt8)) (k : Nat) (h : k < ps.length) : cnt (ps.take (k + 1)) = cnt (ps.take k) + 1 + (ps.getD k []).length := by
  unfold cnt
  rw [flat_next ps k h]
  simp; omega
set_option maxHeartbeats 1000000 in
set_option maxRecDepth 8000 in
theorem beyond_any (key : List UInt8) (a : Option Addr) (n cap : Nat) (ps : List (List UInt8)) (w : World) (hp : Parts w a n ps) (hn : n ≤ 140737488351232) (hk : key.length ≤ 140737488351232) (hps : ∀ j, (ps.getD j []).length ≤ 140737488351232) :
    Calls Try.prog 11 #[.string ⟨key.toArray⟩, .slice a n cap] w fun e w' => w' = w ∧ ∃ r : Bool, e = .returned (.bool r) ∧ (r = false → key.length + cnt ps ≤ 2147483647) := by
  have HP := hide hp
  clear hp
  go_enter Try.func11, Try.ntmps11
  go_wp2
  go_loopw [5, 6] (fun c i wr => ∃ k : Nat, k ≤ n ∧ i = .int .i64 k ∧ c = .int .i64 ((key.length + cnt (ps.take k) : Nat) : Int) ∧ key.length + cnt (ps.take k) ≤ 281474976710656 ∧ wr = w) (fun _ i _ => n - (intOf i).toNat)
  case atStart => exact ⟨0, by omega, rfl, rfl, by simp [cnt]; omega, rfl⟩
  case round =>
    obtain ⟨k, hkn, rfl, rfl, hb, rfl⟩ := hrel
    by_cases hlt : k < n
    · by_cases hm : key.length + cnt (ps.take k) ≤ 2147483647
      · obtain ⟨p, o, rfl, hpl, hc⟩ := (unhide HP).at hlt
        have hnx := hide (cnt_next ps k (by have := (unhide HP).1; omega))
        have hX := hps k
        generalize ps.getD k [] = X at *
        generalize cnt (ps.take k) = C at *
        have hm' : (key.length : Int) + (C : Int) ≤ 2147483647 := by omega
        go_wp2
        go_roundw
        case rel =>
          refine ⟨k + 1, by omega, by go_num, ?_, ?_, trivial⟩
          · rw [unhide hnx]; go_num
          · rw [unhide hnx]; omega
        case measure => simp [intOf]; omega
      · generalize cnt (ps.take k) = C at *
        have hm' : decide ((key.length : Int) + (C : Int) ≤ 2147483647) = false := by simp; omega
        have hg' : decide ((2147483647 : Int) < (key.length : Int) + (C : Int)) = true := by simp; omega
        go_wp2
        go_ret
        exact ⟨rfl, true, rfl, fun q => by cases q⟩
    · have hkn' : k = n := by omega
      have e : ps.take k = ps := List.take_of_length_le (by have := (unhide HP).1; omega)
      rw [e] at hb ⊢
      have hd : decide (k < n) = false := by simp; omega
      generalize hC : cnt ps = C at *
      clear hlt hkn'
      go_wp2
      go_ret
      refine ⟨rfl, _, rfl, fun q => ?_⟩
      have : ¬ (2147483647 : Int) < (key.length : Int) + (C : Int) := of_decide_eq_false q
      omega
theorem nil_text (w : World) : (convert 33 9 (.slice none 0 0)).run Try.prog w = .ok (.string ⟨#[]⟩) w := by
  rw [run_convert_bytes_string w 33 9 5 _ _ _ Try.underlying33 Try.underlying5 Try.underlying9]
  rfl
theorem owns_text {w : World} {base n : Nat} {v : Value} {F : List UInt8} (h : w.ownsRow base 5 1 v n (F.map B)) : (convert 33 9 v).run Try.prog w = .ok (.string ⟨F.toArray⟩) w := by
  have hl : F.length = n := by simpa using h.1
  rcases h.2 with ⟨rfl, rfl⟩ | ⟨g, cap, cur, e1, _⟩
  · obtain rfl : F = [] := List.eq_nil_of_length_eq_zero hl
    exact nil_text w
  · subst e1
    refine run_text w g 0 n cap F hl (fun j hj => ?_)
    rw [Nat.zero_add, h.cellAt j (by omega)]
    have : j < F.length := by omega
    simp [B, this]
set_option maxHeartbeats 1000000 in
theorem joined_any (a : Option Addr) (n cap : Nat) (ps : List (List UInt8)) (w : World) (hp : Parts w a n ps) (hn : n ≤ 140737488351232) (hl : ps.flatten.length ≤ 140737488351232) :
    Calls Try.prog 15 #[.slice a n cap] w fun e w' => e = .returned (.string ⟨ps.flatten.toArray⟩) ∧ Below w.heap.size w w' := by
  obtain ⟨i0, hi, hz0, hz1, hz2⟩ := info_parts info5
  have HP := hide hp
  clear hp
  go_enter Try.func15, Try.ntmps15
  go_wp2
  go_loopw [3, 4] (fun v i wr => ∃ k : Nat, k ≤ n ∧ i = .int .i64 k ∧ wr.ownsRow w.heap.size 5 1 v (ps.take k).flatten.length ((ps.take k).flatten.map B) ∧ Below w.heap.size w wr) (fun _ i _ => n - (intOf i).toNat)
  case atStart => exact ⟨0, by omega, rfl, World.ownsRow_nil _ _ _ _, Below.refl _ _⟩
  case round =>
    obtain ⟨k, hkn, rfl, hown, hbe⟩ := hrel
    by_cases hlt : k < n
    · obtain ⟨p, o, rfl, hpl, hc0⟩ := (unhide HP).at hlt
      have hc : wr.cell? ⟨p, o + k, none⟩ = some (.string ⟨(ps.getD k []).toArray⟩) := (hbe.cell (by exact hpl)).trans hc0
      have hkl : k < ps.length := by have := (unhide HP).1; omega
      have hfl := flat_le ps k hkl
      have hfn := hide (flat_next ps k hkl)
      generalize ps.getD k [] = X at *
      generalize (ps.take k).flatten = F at *
      have hXs : (ByteArray.mk X.toArray).size = X.length := by simp [ByteArray.size]
      have HO := hide hown
      clear hown hc0
      go_wp2_with (at_builtin; refine Lib.wpList_append_own_string _ rfl (.tmp 11) (.tmp 15) 33 9 rfl w.heap.size 5 i0 Try.underlying33 Try.underlying9 hi hz0 hz1 hz2 _ F.length (F.map B) (by rfl) (unhide HO) ⟨X.toArray⟩ (by rfl) (by rw [hXs]; unfold maxLen; omega) (by rw [hXs]; omega) hbe.size ?_; intro v' w2 hown2 hg2 _)
      go_roundw
      case rel =>
        refine ⟨k + 1, by omega, by go_num, ?_, hbe.grown hg2 hbe.size (fun q e => ((unhide HO).lt q e).1)⟩
        rw [unhide hfn, List.length_append, List.map_append, ← hXs]
        exact hown2
      case measure => simp [intOf]; omega
    · have e : ps.take k = ps := List.take_of_length_le (by have := (unhide HP).1; omega)
      have hd : decide (k < n) = false := by simp; omega
      rw [e] at hown
      have HT := hide (owns_text hown)
      clear hown hlt
      go_wp2_with (refine wpList_conv rfl 33 9 (.tmp 17) rfl _ _ (by rfl) (unhide HT) ?_)
      go_ret
      exact ⟨rfl, hbe⟩
end Go.Proofs.Ytdncebdlhoogcaa
