import Derived.Test.YtjopnhhdemfniaaGreatDoorPga
import Derived.Test.YtjopnhhdemfniaaGreatDoorCby
import Derived.Test.YtjopnhhdemfniaaGreatDoorZdsc
namespace Go.Proofs.YtjopnhhdemfniaaGreatDoor
open Go.RowKit
set_option maxHeartbeats 4000000
set_option maxRecDepth 8000
/-- Numbers in memory. -/
def Ins (w : World) (a : Option Addr) (n : Nat) (l : List Int) : Prop :=
  n = l.length ∧ (0 < n → ∃ p o, a = some ⟨p, o, none⟩ ∧ ∀ j, j < n → w.cell? ⟨p, o + j, none⟩ = some (I (l.getD j 0)))
theorem Ins.at {w : World} {a : Option Addr} {n : Nat} {l : List Int} (h : Ins w a n l) {j : Nat} (hj : j < n) : ∃ p o, a = some ⟨p, o, none⟩ ∧ p < w.heap.size ∧ w.cell? ⟨p, o + j, none⟩ = some (I (l.getD j 0)) := by
  obtain ⟨p, o, e, hc⟩ := h.2 (by omega)
  exact ⟨p, o, e, blk_lt (hc j hj), hc j hj⟩
theorem Ins.below {w w' : World} {a : Option Addr} {n : Nat} {l : List Int} (h : Ins w a n l) (hb : Below w.heap.size w w') : Ins w' a n l := by
  refine ⟨h.1, fun hn => ?_⟩
  obtain ⟨p, o, e, hc⟩ := h.2 hn
  exact ⟨p, o, e, fun j hj => (hb.cell (by exact blk_lt (hc j hj))).trans (hc j hj)⟩
theorem Ins.only {P : Nat → Prop} {w w' : World} {a : Option Addr} {n : Nat} {l : List Int} (h : Ins w a n l) (hb : Only P w w') (hp : ∀ g o, a = some ⟨g, o, none⟩ → ¬ P g) : Ins w' a n l := by
  refine ⟨h.1, fun hn => ?_⟩
  obtain ⟨p, o, e, hc⟩ := h.2 hn
  exact ⟨p, o, e, fun j hj => (World.cell?_of_block (hb.block p (blk_lt (hc j hj)) (hp p o e))).trans (hc j hj)⟩
theorem Ins.of {w : World} {v : Value} {l : List Int} (h : w.ownsRow 0 3 1 v l.length (l.map fun n => I n)) : ∃ p cap, v = .slice p l.length cap ∧ Ins w p l.length l ∧ (∀ g o, p = some ⟨g, o, none⟩ → v.ownBlock = some g) := by
  rcases h.2 with ⟨e, q⟩ | ⟨g, cap, cur, e1, e2⟩
  · exact ⟨none, 0, by rw [e, q], ⟨rfl, fun h => by omega⟩, fun g o e => by cases e⟩
  · refine ⟨_, cap, e1, ⟨rfl, fun _ => ⟨g, 0, rfl, fun j hj => ?_⟩⟩, fun g' o e => ?_⟩
    · subst e1
      rw [Nat.zero_add]
      exact owns_cell h j _ (by simp [hj])
    · cases e
      rw [e1]
      rfl
theorem Ins.nil (w : World) (a : Option Addr) : Ins w a 0 [] := ⟨rfl, fun h => by omega⟩
theorem isPage_any (n : Int) (w : World) : Calls Tryz.prog 224 #[I n] w fun e w' => e = .returned (.bool (isPg n)) ∧ w' = w := by
  unfold isPg
  by_cases h1 : 2 ≤ n
  · by_cases h2 : n < 4096
    · go_enter Tryz.func224, Tryz.ntmps224
      go_wp2
      go_ret
      exact ⟨ret_bool (by simp <;> omega), rfl⟩
    · go_enter Tryz.func224, Tryz.ntmps224
      go_wp2
      go_ret
      exact ⟨ret_bool (by simp <;> omega), rfl⟩
  · go_enter Tryz.func224, Tryz.ntmps224
    go_wp2
    go_ret
    exact ⟨ret_bool (by simp <;> omega), rfl⟩
theorem isNoPage_any (n : Int) (w : World) : Calls Tryz.prog 226 #[I n] w fun e w' => e = .returned (.bool (!isPg n)) ∧ w' = w := by
  have H := hide (isPage_any n w)
  generalize isPg n = b at *
  go_enter Tryz.func226, Tryz.ntmps226
  go_wp2_with fail
  refine (unhide H).mono ?_
  rintro e w1 ⟨rfl, rfl⟩
  go_wp2
  go_ret
  exact ⟨rfl, rfl⟩
theorem isGeneration_any (n : Int) (w : World) : Calls Tryz.prog 138 #[I n] w fun e w' => e = .returned (.bool (isGn n)) ∧ w' = w := by
  unfold isGn
  by_cases h1 : 1 ≤ n
  · by_cases h2 : n ≤ 4611686018427387904
    · go_enter Tryz.func138, Tryz.ntmps138
      go_wp2
      go_ret
      exact ⟨ret_bool (by simp <;> omega), rfl⟩
    · go_enter Tryz.func138, Tryz.ntmps138
      go_wp2
      go_ret
      exact ⟨ret_bool (by simp <;> omega), rfl⟩
  · go_enter Tryz.func138, Tryz.ntmps138
    go_wp2
    go_ret
    exact ⟨ret_bool (by simp <;> omega), rfl⟩
theorem all_next (l : List Int) (k : Nat) (hk : k < l.length) : (l.take (k + 1)).all isPg = ((l.take k).all isPg && isPg (l.getD k 0)) := by
  rw [List.take_succ_eq_append_getElem hk, List.all_append]
  simp [hk]
theorem all_bad (l : List Int) (k : Nat) (hk : k < l.length) (h : isPg (l.getD k 0) = false) : l.all isPg = false := by
  rw [Bool.eq_false_iff]
  intro q
  rw [List.all_eq_true] at q
  have := q (l.getD k 0) (by rw [List.getD_eq_getElem?_getD, List.getElem?_eq_getElem hk]; exact List.getElem_mem hk)
  rw [h] at this
  cases this
theorem indexFuncI_any (a : Option Addr) (n cap : Nat) (l : List Int) (w : World) (hp : Ins w a n l) (hn : n ≤ 1000000000000) :
    Calls Tryz.prog 241 #[.slice a n cap, .func (.func 226) #[] #[]] w fun e w' => ∃ i : Int, e = .returned (I i) ∧ (0 ≤ i ↔ l.all isPg = false) ∧ w' = w := by
  have hN := hp.1
  subst hN
  have HP := hide hp
  clear hp
  go_enter Tryz.func241, Tryz.ntmps241
  go_wp2
  go_loopw [8] (fun i wr => ∃ k : Nat, k ≤ l.length ∧ i = .int .i64 k ∧ (l.take k).all isPg = true ∧ wr = w) (fun i _ => l.length - (Go.RowKit.intOf i).toNat)
  case atStart => exact ⟨0, by omega, rfl, rfl, rfl⟩
  case round =>
    obtain ⟨k, hk, rfl, ha, rfl⟩ := hrel
    by_cases hlt : k < l.length
    · obtain ⟨p, o, rfl, hpl, hc0⟩ := (unhide HP).at hlt
      have hlt' : (k : Int) < (l.length : Int) := by omega
      have HN := hide (all_next l k hlt)
      have HW := hide (all_bad l k hlt)
      generalize l.getD k 0 = x at *
      have H1 := hide (fun W => isNoPage_any x W)
      have HA := hide ha
      clear ha
      cases hx : isPg x
      · rw [hx] at H1
        go_wp2_with fail
        refine (unhide H1 _).mono ?_
        rintro e w2 ⟨rfl, rfl⟩
        go_wp2
        go_ret
        exact ⟨k, rfl, ⟨fun _ => unhide HW hx, fun _ => by omega⟩, rfl⟩
      · rw [hx] at H1
        have HA2 := hide (show (l.take (k + 1)).all isPg = true by rw [unhide HN, unhide HA, hx]; rfl)
        clear hx
        go_wp2_with fail
        refine (unhide H1 _).mono ?_
        rintro e w2 ⟨rfl, rfl⟩
        go_wp2
        go_round
        case measure => simp [Go.RowKit.intOf]; omega
        case rel => exact ⟨k + 1, by omega, by simp, unhide HA2, by first | trivial | rfl⟩
    · have hlt' : ¬ (k : Int) < (l.length : Int) := by omega
      have HA := hide ha
      clear ha
      go_wp2
      go_ret
      refine ⟨-1, rfl, ⟨fun h => by omega, fun h => ?_⟩, rfl⟩
      have := unhide HA
      rw [List.take_of_length_le (by omega)] at this
      obtain ⟨x, h1, h2⟩ := h
      have := List.all_eq_true.1 this x h1
      rw [h2] at this
      cases this
theorem containsFuncI_any (a : Option Addr) (n cap : Nat) (l : List Int) (w : World) (hp : Ins w a n l) (hn : n ≤ 1000000000000) :
    Calls Tryz.prog 225 #[.slice a n cap, .func (.func 226) #[] #[]] w fun e w' => e = .returned (.bool (!l.all isPg)) ∧ w' = w := by
  have H := hide (indexFuncI_any a n cap l w hp hn)
  clear hp
  go_enter Tryz.func225, Tryz.ntmps225
  go_wp2_with fail
  refine (unhide H).mono ?_
  rintro e w1 ⟨i, rfl, hi, rfl⟩
  by_cases h0 : 0 ≤ i
  · have HI := hide (hi.1 h0)
    clear hi
    go_wp2
    go_ret
    exact ⟨ret_bool (by rw [unhide HI]; first | rfl | simpa using h0), rfl⟩
  · have HI := hide (show l.all isPg = true by
      cases q : l.all isPg
      · exact absurd (hi.2 q) h0
      · rfl)
    clear hi
    go_wp2
    go_ret
    exact ⟨ret_bool (by rw [unhide HI]; first | rfl | simpa using h0), rfl⟩
end Go.Proofs.YtjopnhhdemfniaaGreatDoor
