import Derived.Test.YtjopnhhdemfniaaGreatDoorZpja
import Derived.Test.YtjopnhhdemfniaaGreatDoorZdetl
import Derived.Test.YtjopnhhdemfniaaGreatDoorZpgc
import Derived.Test.YtjopnhhdemfniaaGreatDoorPhd
namespace Go.Proofs.YtjopnhhdemfniaaGreatDoor
open Go.RowKit
set_option maxHeartbeats 4000000
set_option maxRecDepth 8000
theorem s_u32 (n : Nat) (hn : n < 4294967296) (W : World) : (convert 118 3 (.int .u32 (n : Int))).run Tryz.prog W = .ok (I (n : Int)) W := by
  have q : IntKind.i64.wrap (n : Int) = (n : Int) := by rw [IntKind.wrap_i64]; omega
  simp [go_sem, q, Tryz.underlying118, Tryz.underlying3]
end Go.Proofs.YtjopnhhdemfniaaGreatDoor
namespace Go.Proofs.YtjopnhhdemfniaaGreatDoor
open Go.RowKit
set_option maxHeartbeats 8000000
set_option maxRecDepth 8000
/-- All links so far are pages. -/
def lkk (l : List Int) (k : Nat) : Bool := (l.take k).all isPg
theorem lkk_next (l : List Int) (k : Nat) (hk : k < l.length) : lkk l (k + 1) = (lkk l k && isPg (l.getD k 0)) := by
  unfold lkk
  rw [List.take_succ_eq_append_getElem hk, List.all_append]
  simp [hk]
theorem lkk_bad (l : List Int) (k : Nat) (hk : k < l.length) (h : isPg (l.getD k 0) = false) : l.all isPg = false := by
  rw [← Bool.not_eq_true]
  intro q
  have hm : l.getD k 0 ∈ l := by
    rw [List.getD_eq_getElem?_getD, List.getElem?_eq_getElem hk]
    exact List.getElem_mem hk
  rw [List.all_eq_true.1 q _ hm] at h
  cases h
theorem lkk_all (l : List Int) : lkk l l.length = l.all isPg := by unfold lkk; rw [List.take_length]
theorem pm_b (k m b : Int) (l : List Int) (x : Bs) (v : Bool) (h : v = true ↔ ((1 ≤ k ∧ k ≤ 255) ∧ (2 ≤ m ∧ m < 4096) ∧ (1 ≤ b ∧ b ≤ 4611686018427387904) ∧ 4 * l.length + x.length ≤ 488) ∧ l.all isPg = true) : v = Pg.may ⟨k, m, b, l, x⟩ := by
  rw [Bool.eq_iff_iff, h]
  simp only [Pg.may, Pg.fresh, isGn, isPg, Bool.and_eq_true, decide_eq_true_eq]
  constructor
  · rintro ⟨⟨h1, h2, h3, h4⟩, h5⟩
    exact ⟨h3, ⟨⟨⟨h4, h1.1⟩, h1.2⟩, h2⟩, h5⟩
  · rintro ⟨h3, ⟨⟨⟨h4, h1⟩, h1'⟩, h2⟩, h5⟩
    exact ⟨⟨⟨h1, h1'⟩, h2, h3, h4⟩, h5⟩
theorem rPageMay_any (p : Pg) (a : Option Addr) (cap : Nat) (w : World) (hl : Ins w a p.links.length p.links) (hn : p.links.length ≤ 1000000000000) (hx : p.body.length ≤ 1000000000000) :
    Calls Tryz.prog 58 #[pga p a cap] w fun e w' => e = .returned (.bool p.may) ∧ Below w.heap.size w w' := by
  have bA := (Below.refl w.heap.size w).alloc (Nat.le_refl _) (.cells (pgc p a cap) 24)
  have hg := heap_alloc_new w (.cells (pgc p a cap) 24)
  have hla := hl.below bA
  have HB := hide bA
  have HI := hide hla
  have HS := hide (show (w.alloc (.cells (pgc p a cap) 24)).heap.size = w.heap.size + 1 by simp)
  obtain ⟨k, m, b, l, x⟩ := p
  have HR := hide (fun v => pm_b k m b l x v)
  generalize Pg.may ⟨k, m, b, l, x⟩ = R at *
  unfold pga pgc at *
  simp only at HB HI hg hn hx ⊢
  have HG := hide hg
  have HAll := hide (lkk_all l)
  have HBad := hide (lkk_bad l)
  clear hl hla hg bA
  obtain ⟨e0, e1, e2, e3, e4⟩ := box5 (unhide HG) (Below.refl _ _) (lt_of_row (unhide HG))
  generalize hWA : w.alloc (.cells #[I k, I m, I b, .slice a l.length cap, S x] 24) = WA at *
  have HWA := hide hWA
  clear hWA
  go_enter Tryz.func58, Tryz.ntmps58
  go_wp2
  rw [unhide HWA]
  go_loopw [3] (fun i wr => ∃ j : Nat, j ≤ l.length ∧ i = .int .i64 j ∧ lkk l j = true ∧ wr = WA) (fun i _ => l.length - (Go.RowKit.intOf i).toNat)
  case atStart => exact ⟨0, by omega, rfl, rfl, rfl⟩
  case round =>
    obtain ⟨j, hj, rfl, ha, rfl⟩ := hrel
    by_cases hlt : j < l.length
    · have hlt' : (j : Int) < (l.length : Int) := by omega
      obtain ⟨p, o, rfl, hpl, hc0⟩ := (unhide HI).at hlt
      have HN := hide (lkk_next l j hlt)
      have HW := hide (unhide HBad j hlt)
      have HA := hide ha
      clear ha
      generalize l.getD j 0 = z at *
      by_cases z1 : z < 2
      · have HF := hide (unhide HW (by simp [isPg]; omega))
        go_wp2
        go_ret
        exact ⟨ret_bool (unhide HR false (iff_of_false Bool.false_ne_true (fun q => by rw [unhide HF] at q; cases q.2))), unhide HB⟩
      · by_cases z2 : 4096 ≤ z
        · have HF := hide (unhide HW (by simp [isPg]; omega))
          go_wp2
          go_ret
          exact ⟨ret_bool (unhide HR false (iff_of_false Bool.false_ne_true (fun q => by rw [unhide HF] at q; cases q.2))), unhide HB⟩
        · have HA2 := hide (show lkk l (j + 1) = true by rw [unhide HN, unhide HA]; simp [isPg]; omega)
          go_wp2
          go_round
          case measure => simp [Go.RowKit.intOf]; omega
          case rel => exact ⟨j + 1, by omega, by simp, unhide HA2, trivial⟩
    · have hlt' : ¬ (j : Int) < (l.length : Int) := by omega
      obtain rfl : j = l.length := by omega
      have HA := hide ((unhide HAll).symm.trans ha)
      clear ha hlt
      by_cases c0 : 1 ≤ k
      · skip
        by_cases c1 : k ≤ 255
        · skip
          by_cases c2 : 2 ≤ m
          · skip
            by_cases c3 : m < 4096
            · skip
              by_cases c4 : 1 ≤ b
              · skip
                by_cases c5 : b ≤ 4611686018427387904
                · skip
                  by_cases c6 : 4 * l.length + x.length ≤ 488
                  · have c6' : 4 * (l.length : Int) + (x.length : Int) ≤ 488 := by omega
                    go_wp2
                    go_ret
                    exact ⟨ret_bool (unhide HR true (iff_of_true rfl ⟨⟨⟨c0, c1⟩, ⟨c2, c3⟩, ⟨c4, c5⟩, c6⟩, unhide HA⟩)), unhide HB⟩
                  · have c6' : ¬ 4 * (l.length : Int) + (x.length : Int) ≤ 488 := by omega
                    go_wp2
                    go_ret
                    exact ⟨ret_bool (unhide HR false (iff_of_false Bool.false_ne_true (fun q => by have := q.1; omega))), unhide HB⟩
                · skip
                  go_wp2
                  go_ret
                  exact ⟨ret_bool (unhide HR false (iff_of_false Bool.false_ne_true (fun q => by have := q.1; omega))), unhide HB⟩
              · skip
                go_wp2
                go_ret
                exact ⟨ret_bool (unhide HR false (iff_of_false Bool.false_ne_true (fun q => by have := q.1; omega))), unhide HB⟩
            · skip
              go_wp2
              go_ret
              exact ⟨ret_bool (unhide HR false (iff_of_false Bool.false_ne_true (fun q => by have := q.1; omega))), unhide HB⟩
          · skip
            go_wp2
            go_ret
            exact ⟨ret_bool (unhide HR false (iff_of_false Bool.false_ne_true (fun q => by have := q.1; omega))), unhide HB⟩
        · skip
          go_wp2
          go_ret
          exact ⟨ret_bool (unhide HR false (iff_of_false Bool.false_ne_true (fun q => by have := q.1; omega))), unhide HB⟩
      · skip
        go_wp2
        go_ret
        exact ⟨ret_bool (unhide HR false (iff_of_false Bool.false_ne_true (fun q => by have := q.1; omega))), unhide HB⟩
end Go.Proofs.YtjopnhhdemfniaaGreatDoor
