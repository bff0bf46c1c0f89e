import Derived.Test.YtjopnhhdemfniaaGreatDoorZpgf
import Derived.Test.YtjopnhhdemfniaaGreatDoorZphe
import Derived.BigRegion
import Derived.RegionTactic
namespace Go.Proofs.YtjopnhhdemfniaaGreatDoor
open Go.RowKit
set_option maxHeartbeats 8000000
set_option maxRecDepth 8000
/-- What a pager keeps. -/
structure Pr where
  h : Hd
  use : Us
  pins : UInt8
  doubt : Bool
def pcs (D : Nat) (p : Pr) (vu : Value) : Array Value := #[ptr D, I p.h.gen, I p.h.root, I p.h.blocks, S p.h.note, vu, .int .u8 (p.pins.toNat : Int), .bool p.doubt]
/-- A pager and its disk in memory. -/
structure PD (P D : Nat) (d : Ds) (p : Pr) (vw vl vu : Value) (w : World) : Prop where
  dat : DAt D d vw vl w
  ok : Ok d
  blk : w.heap[P]? = some (.cells (pcs D p vu) 172 (0, 0))
  us : Uls w vu p.use
  len : p.use.length = d.last.length
/-- Its blocks. -/
def POf (P D : Nat) (vw vl vu : Value) (k : Nat) : Prop := k = P ∨ vu.ownBlock = some k ∨ Of D vw vl k
variable {P D : Nat} {d : Ds} {p : Pr} {vw vl vu : Value} {w w' : World}
theorem PD.lt (h : PD P D d p vw vl vu w) : P < w.heap.size := lt_of_row h.blk
theorem PD.c (h : PD P D d p vw vl vu w) : w.cell? ⟨P, 0, none⟩ = some (ptr D) ∧ w.cell? ⟨P, 1, none⟩ = some (I p.h.gen) ∧ w.cell? ⟨P, 2, none⟩ = some (I p.h.root) ∧ w.cell? ⟨P, 3, none⟩ = some (I p.h.blocks) ∧ w.cell? ⟨P, 4, none⟩ = some (S p.h.note) ∧ w.cell? ⟨P, 5, none⟩ = some vu ∧ w.cell? ⟨P, 6, none⟩ = some (.int .u8 (p.pins.toNat : Int)) ∧ w.cell? ⟨P, 7, none⟩ = some (.bool p.doubt) := by
  have := fun j => cell_of_row w P j _ 172 (0, 0) h.blk
  refine ⟨?_, ?_, ?_, ?_, ?_, ?_, ?_, ?_⟩ <;> (rw [this]; rfl)
theorem PD.kindD (h : PD P D d p vw vl vu w) (k : Nat) (hk : Of D vw vl k) : ∃ cs t, w.heap[k]? = some (.cells cs t (0, 0)) ∧ (t = 153 ∨ t = 164 ∨ t = 9) := by
  rcases hk with rfl | hk | hk
  · exact ⟨_, _, h.dat.blk, .inl rfl⟩
  · obtain ⟨cs, q⟩ := owns_lt h.dat.ws k hk
    exact ⟨_, _, q, .inr (.inl rfl)⟩
  · obtain ⟨cs, q⟩ := owns_lt h.dat.ls k hk
    exact ⟨_, _, q, .inr (.inr rfl)⟩
theorem PD.neP (h : PD P D d p vw vl vu w) : ∀ k, Of D vw vl k → k ≠ P := by
  intro k hk e
  obtain ⟨cs, t, q, ht⟩ := h.kindD k hk
  rw [e, h.blk] at q
  cases q
  rcases ht with h | h | h <;> exact absurd h (by decide)
theorem PD.neU (h : PD P D d p vw vl vu w) : ∀ k, Of D vw vl k → vu.ownBlock ≠ some k := by
  intro k hk e
  obtain ⟨cs, t, q, ht⟩ := h.kindD k hk
  obtain ⟨cs2, q2⟩ := owns_lt h.us k e
  rw [q2] at q
  cases q
  rcases ht with h | h | h <;> exact absurd h (by decide)
theorem PD.uP (h : PD P D d p vw vl vu w) : vu.ownBlock ≠ some P := by
  intro e
  obtain ⟨cs2, q2⟩ := owns_lt h.us P e
  rw [h.blk] at q2
  cases q2
theorem PD.old (h : PD P D d p vw vl vu w) : ∀ k, POf P D vw vl vu k → k < w.heap.size := by
  rintro k (rfl | hk | hk)
  · exact h.lt
  · exact owns_blk h.us k hk
  · exact h.dat.old k hk
theorem PD.only {F : Nat → Prop} (h : PD P D d p vw vl vu w) (o : Only F w w') (hp : ∀ k, POf P D vw vl vu k → ¬ F k) : PD P D d p vw vl vu w' :=
  ⟨h.dat.only o (fun k hk => hp k (.inr (.inr hk))), h.ok, (o.block P h.lt (hp P (.inl rfl))).trans h.blk, owns_only h.us o (fun k hk => hp k (.inr (.inl hk))), h.len⟩
theorem PD.below (h : PD P D d p vw vl vu w) (b : Below w.heap.size w w') : PD P D d p vw vl vu w' := h.only (Only.of_below (P := fun _ => False) b) (fun _ _ q => q)
/-- A cell of its own block is written. -/
theorem PD.set {p' : Pr} {vu' : Value} (h : PD P D d p vw vl vu w) (j : Nat) (x : Value) (hc : (pcs D p vu).setIfInBounds j x = pcs D p' vu') (hu : Uls w vu' p'.use) (hl : p'.use.length = d.last.length) : PD P D d p' vw vl vu' (w.setCell ⟨P, j, none⟩ x) := by
  have o := Only.setCell w ⟨P, j, none⟩ x
  refine ⟨h.dat.only o (fun k hk e => h.neP k hk e), h.ok, ?_, owns_only hu o (fun k hk e => ?_), hl⟩
  · rw [heap_setCell_same w P j _ 172 x h.blk, hc]
  · obtain ⟨cs, q⟩ := owns_lt hu k hk
    rw [show k = P from e, h.blk] at q
    cases q
/-- The disk has turned. -/
theorem PD.disk {d' : Ds} (h : PD P D d p vw vl vu w) (t : DTo D vw vl d' w w') (ho : Ok d') (hl : d'.last.length = d.last.length) : ∃ vw', PD P D d' p vw' vl vu w' ∧ Only (POf P D vw vl vu) w w' ∧ ∀ k, vw'.ownBlock = some k → vw.ownBlock = some k ∨ w.heap.size ≤ k := by
  obtain ⟨vw', a, o, n⟩ := t
  refine ⟨vw', ⟨a, ho, (o.block P h.lt (fun q => h.neP P q rfl)).trans h.blk, owns_only h.us o (fun k hk q => h.neU k q hk), h.len.trans hl.symm⟩, o.mono (fun k _ q => .inr (.inr q)), n⟩
def askv (d : Ds) (p : Pr) : Int := if (p.doubt || d.dead) = true then 2 else 0
def Pr.ask (p : Pr) (d : Ds) : Pr := { p with doubt := p.doubt || d.dead }
theorem ask_any (h : PD P D d p vw vl vu w) : Calls Tryz.prog 114 #[ptr P] w fun e w' => e = .returned (I (askv d p)) ∧ PD P D d (p.ask d) vw vl vu w' ∧ Only (fun k => k = P) w w' := by
  obtain ⟨c0, c1, c2, c3, c4, c5, c6, c7⟩ := h.c
  have H0 := hide (dead_any h.dat)
  have f7 := frz h.blk 7
  have hlt := h.lt
  have hset := h.set (p' := p.ask d) (vu' := vu) 7 (.bool (p.doubt || d.dead)) rfl h.us h.len
  have HS := hide hset
  have HD := hide h
  have HA := hide (show askv d p = if (p.doubt || d.dead) = true then 2 else 0 from rfl)
  have HP := hide (show p.ask d = { p with doubt := p.doubt || d.dead } from rfl)
  generalize p.ask d = pa at *
  generalize askv d p = av at *
  clear hset h
  obtain ⟨ph, us, pins, db⟩ := p
  simp only at c7 c6 c1 c2 c3 c4 HS HA HP
  cases hd : d.dead
  · rw [hd] at H0 HA HP HS
    cases db
    · have e1 : pa = ⟨ph, us, pins, false⟩ := unhide HP
      have e2 : av = 0 := unhide HA
      subst e1 e2
      go_enter Tryz.func114, Tryz.ntmps114
      go_wp2_with fail
      refine (unhide H0).mono ?_
      rintro e w0 ⟨rfl, hw0⟩
      rw [hw0]
      clear hw0 w0
      go_wp2
      go_ret
      exact ⟨rfl, unhide HD, Only.refl _ _⟩
    · have e1 : pa = ⟨ph, us, pins, true⟩ := unhide HP
      have e2 : av = 2 := unhide HA
      subst e1 e2
      go_enter Tryz.func114, Tryz.ntmps114
      go_wp2_with fail
      refine (unhide H0).mono ?_
      rintro e w0 ⟨rfl, hw0⟩
      rw [hw0]
      clear hw0 w0
      go_wp2
      go_ret
      exact ⟨rfl, unhide HD, Only.refl _ _⟩
  · rw [hd] at H0 HA HP HS
    have e0 : (db || true) = true := by simp
    rw [e0] at HA HP HS
    have e2 : av = 2 := unhide HA
    subst e2
    have HO := hide (Only.setCell w ⟨P, 7, none⟩ (.bool true))
    go_enter Tryz.func114, Tryz.ntmps114
    go_wp2_with fail
    refine (unhide H0).mono ?_
    rintro e w0 ⟨rfl, hw0⟩
    rw [hw0]
    clear hw0 w0
    go_wp2
    go_ret
    exact ⟨rfl, unhide HS, unhide HO⟩
theorem sizeP_any (h : PD P D d p vw vl vu w) : Calls Tryz.prog 111 #[ptr P] w fun e w' => e = .returned (I p.h.blocks) ∧ w' = w := by
  obtain ⟨c0, c1, c2, c3, c4, c5, c6, c7⟩ := h.c
  have hlt := h.lt
  clear h
  obtain ⟨⟨g, r, b, n⟩, us, pins, db⟩ := p
  simp only at c1 c2 c3 c4 c6 c7 ⊢
  go_enter Tryz.func111, Tryz.ntmps111
  go_wp2
  go_ret
  exact ⟨rfl, rfl⟩
theorem generation_any (h : PD P D d p vw vl vu w) : Calls Tryz.prog 40 #[ptr P] w fun e w' => e = .returned (I p.h.gen) ∧ w' = w := by
  obtain ⟨c0, c1, c2, c3, c4, c5, c6, c7⟩ := h.c
  have hlt := h.lt
  clear h
  obtain ⟨⟨g, r, b, n⟩, us, pins, db⟩ := p
  simp only at c1 c2 c3 c4 c6 c7 ⊢
  go_enter Tryz.func40, Tryz.ntmps40
  go_wp2
  go_ret
  exact ⟨rfl, rfl⟩
theorem root_any (h : PD P D d p vw vl vu w) : Calls Tryz.prog 54 #[ptr P] w fun e w' => e = .returned (I p.h.root) ∧ w' = w := by
  obtain ⟨c0, c1, c2, c3, c4, c5, c6, c7⟩ := h.c
  have hlt := h.lt
  clear h
  obtain ⟨⟨g, r, b, n⟩, us, pins, db⟩ := p
  simp only at c1 c2 c3 c4 c6 c7 ⊢
  go_enter Tryz.func54, Tryz.ntmps54
  go_wp2
  go_ret
  exact ⟨rfl, rfl⟩
theorem doubt_any (h : PD P D d p vw vl vu w) : Calls Tryz.prog 112 #[ptr P] w fun e w' => e = .returned (.bool p.doubt) ∧ w' = w := by
  obtain ⟨c0, c1, c2, c3, c4, c5, c6, c7⟩ := h.c
  have hlt := h.lt
  clear h
  obtain ⟨⟨g, r, b, n⟩, us, pins, db⟩ := p
  simp only at c1 c2 c3 c4 c6 c7 ⊢
  go_enter Tryz.func112, Tryz.ntmps112
  go_wp2
  go_ret
  exact ⟨rfl, rfl⟩
theorem note_any (h : PD P D d p vw vl vu w) (hn : p.h.note.length ≤ 1000) : Calls Tryz.prog 55 #[ptr P] w fun e w' => e = .returned (S p.h.note) ∧ Below w.heap.size w w' := by
  obtain ⟨c0, c1, c2, c3, c4, c5, c6, c7⟩ := h.c
  have hlt := h.lt
  have H := hide (clone_any p.h.note w (by omega))
  clear h
  obtain ⟨⟨g, r, b, n⟩, us, pins, db⟩ := p
  simp only at c1 c2 c3 c4 c6 c7 H ⊢
  go_enter Tryz.func55, Tryz.ntmps55
  go_wp2_with fail
  refine (unhide H).mono ?_
  rintro e w1 ⟨rfl, b1⟩
  have HB := hide b1
  clear b1
  go_wp2
  go_ret
  exact ⟨rfl, unhide HB⟩
theorem countFree_any {v : Value} {u : Us} {w : World} (h : Uls w v u) (hl : u.length ≤ 1000000) : Calls Tryz.prog 121 #[v, .func (.func 120) #[] #[]] w fun e w' => e = .returned (I (sel u frb).length) ∧ w' = w := by
  obtain ⟨p, cap, rfl⟩ := owns_form h
  have H := hide h
  clear h
  go_enter Tryz.func121, Tryz.ntmps121
  go_wp2
  go_loopw [5, 9] (fun c i wr => ∃ k : Nat, k ≤ u.length ∧ i = .int .i64 k ∧ (∃ m : Nat, c = .int .i64 m ∧ m = (selk u frb k).length) ∧ wr = w) (fun _ i _ => u.length - (Go.RowKit.intOf i).toNat)
  case atStart => exact ⟨0, by omega, rfl, ⟨0, rfl, rfl⟩, rfl⟩
  case round =>
    obtain ⟨k, hk, rfl, ⟨m, rfl, hm⟩, rfl⟩ := hrel
    have hmk : m ≤ k := by rw [hm]; exact selk_len u frb k
    by_cases hlt : k < u.length
    · have hlt' : (k : Int) < (u.length : Int) := by omega
      have hn := selk_next u frb k
      obtain ⟨g, cap', e, hg, hc⟩ := ((unhide H).at hlt)
      cases e
      have H1 := hide (fun W => isFree_any (u.getD k 0) W)
      unfold B at H1
      change Hid (∀ W, Calls Tryz.prog 120 #[.int .u8 ((u.getD k 0).toNat : Int)] W fun e w' => e = .returned (.bool (frb (u.getD k 0))) ∧ w' = W) at H1
      have hx := (u.getD k 0).toNat_lt
      have HM := hide hm
      have HN := hide hn
      clear hn hm
      by_cases h2 : 2 ≤ k
      · have h2' : (2 : Int) ≤ (k : Int) := by omega
        cases hp : frb (u.getD k 0)
        · rw [hp] at H1
          have HS := hide (show m = (selk u frb (k + 1)).length by rw [unhide HN, hp, unhide HM]; simp)
          generalize (u.getD k 0).toNat = x at *
          clear hp
          go_wp2_with (go_at_call 120; refine (unhide H1 _).mono ?_; rintro e w2 ⟨rfl, hw⟩; rw [hw]; clear hw w2)
          go_round
          case measure => simp [Go.RowKit.intOf]; omega
          case rel => exact ⟨k + 1, by omega, by simp, ⟨m, rfl, unhide HS⟩, by first | trivial | rfl⟩
        · rw [hp] at H1
          have HS := hide (show m + 1 = (selk u frb (k + 1)).length by rw [unhide HN, hp, unhide HM]; simp [h2])
          generalize (u.getD k 0).toNat = x at *
          clear hp
          go_wp2_with (go_at_call 120; refine (unhide H1 _).mono ?_; rintro e w2 ⟨rfl, hw⟩; rw [hw]; clear hw w2)
          go_round
          case measure => simp [Go.RowKit.intOf]; omega
          case rel => exact ⟨k + 1, by omega, by simp, ⟨m + 1, by go_num, unhide HS⟩, by first | trivial | rfl⟩
      · have h2' : ¬ (2 : Int) ≤ (k : Int) := by omega
        have HS := hide (show m = (selk u frb (k + 1)).length by rw [unhide HN, unhide HM]; simp [h2])
        go_wp2
        go_round
        case measure => simp [Go.RowKit.intOf]; omega
        case rel => exact ⟨k + 1, by omega, by simp, ⟨m, rfl, unhide HS⟩, by first | trivial | rfl⟩
    · have hlt' : ¬ (k : Int) < (u.length : Int) := by omega
      obtain rfl : k = u.length := by omega
      have HM := hide hm
      clear hm
      go_wp2
      go_ret
      exact ⟨ret_int (by rw [unhide HM]; rfl), rfl⟩
theorem countHeld_any {v : Value} {u : Us} {w : World} (h : Uls w v u) (hl : u.length ≤ 1000000) : Calls Tryz.prog 121 #[v, .func (.func 188) #[] #[]] w fun e w' => e = .returned (I (sel u hdb).length) ∧ w' = w := by
  obtain ⟨p, cap, rfl⟩ := owns_form h
  have H := hide h
  clear h
  go_enter Tryz.func121, Tryz.ntmps121
  go_wp2
  go_loopw [5, 9] (fun c i wr => ∃ k : Nat, k ≤ u.length ∧ i = .int .i64 k ∧ (∃ m : Nat, c = .int .i64 m ∧ m = (selk u hdb k).length) ∧ wr = w) (fun _ i _ => u.length - (Go.RowKit.intOf i).toNat)
  case atStart => exact ⟨0, by omega, rfl, ⟨0, rfl, rfl⟩, rfl⟩
  case round =>
    obtain ⟨k, hk, rfl, ⟨m, rfl, hm⟩, rfl⟩ := hrel
    have hmk : m ≤ k := by rw [hm]; exact selk_len u hdb k
    by_cases hlt : k < u.length
    · have hlt' : (k : Int) < (u.length : Int) := by omega
      have hn := selk_next u hdb k
      obtain ⟨g, cap', e, hg, hc⟩ := ((unhide H).at hlt)
      cases e
      have H1 := hide (fun W => isHeld_any (u.getD k 0) W)
      unfold B at H1
      change Hid (∀ W, Calls Tryz.prog 188 #[.int .u8 ((u.getD k 0).toNat : Int)] W fun e w' => e = .returned (.bool (hdb (u.getD k 0))) ∧ w' = W) at H1
      have hx := (u.getD k 0).toNat_lt
      have HM := hide hm
      have HN := hide hn
      clear hn hm
      by_cases h2 : 2 ≤ k
      · have h2' : (2 : Int) ≤ (k : Int) := by omega
        cases hp : hdb (u.getD k 0)
        · rw [hp] at H1
          have HS := hide (show m = (selk u hdb (k + 1)).length by rw [unhide HN, hp, unhide HM]; simp)
          generalize (u.getD k 0).toNat = x at *
          clear hp
          go_wp2_with (go_at_call 188; refine (unhide H1 _).mono ?_; rintro e w2 ⟨rfl, hw⟩; rw [hw]; clear hw w2)
          go_round
          case measure => simp [Go.RowKit.intOf]; omega
          case rel => exact ⟨k + 1, by omega, by simp, ⟨m, rfl, unhide HS⟩, by first | trivial | rfl⟩
        · rw [hp] at H1
          have HS := hide (show m + 1 = (selk u hdb (k + 1)).length by rw [unhide HN, hp, unhide HM]; simp [h2])
          generalize (u.getD k 0).toNat = x at *
          clear hp
          go_wp2_with (go_at_call 188; refine (unhide H1 _).mono ?_; rintro e w2 ⟨rfl, hw⟩; rw [hw]; clear hw w2)
          go_round
          case measure => simp [Go.RowKit.intOf]; omega
          case rel => exact ⟨k + 1, by omega, by simp, ⟨m + 1, by go_num, unhide HS⟩, by first | trivial | rfl⟩
      · have h2' : ¬ (2 : Int) ≤ (k : Int) := by omega
        have HS := hide (show m = (selk u hdb (k + 1)).length by rw [unhide HN, unhide HM]; simp [h2])
        go_wp2
        go_round
        case measure => simp [Go.RowKit.intOf]; omega
        case rel => exact ⟨k + 1, by omega, by simp, ⟨m, rfl, unhide HS⟩, by first | trivial | rfl⟩
    · have hlt' : ¬ (k : Int) < (u.length : Int) := by omega
      obtain rfl : k = u.length := by omega
      have HM := hide hm
      clear hm
      go_wp2
      go_ret
      exact ⟨ret_int (by rw [unhide HM]; rfl), rfl⟩
end Go.Proofs.YtjopnhhdemfniaaGreatDoor
namespace Go.Proofs.YtjopnhhdemfniaaGreatDoor
open Go.RowKit
set_option maxHeartbeats 8000000
set_option maxRecDepth 8000
variable {P D : Nat} {d : Ds} {p : Pr} {vw vl vu : Value} {w w' : World}
theorem PD.few (h : PD P D d p vw vl vu w) : p.use.length ≤ 4096 := by rw [h.len]; exact h.ok.len.2
theorem free_any (h : PD P D d p vw vl vu w) : Calls Tryz.prog 49 #[ptr P] w fun e w' => e = .returned (I (sel p.use frb).length) ∧ w' = w := by
  obtain ⟨c0, c1, c2, c3, c4, c5, c6, c7⟩ := h.c
  have hlt := h.lt
  have H := hide (countFree_any h.us (by have := h.few; omega))
  obtain ⟨q, cap, rfl⟩ := owns_form h.us
  clear h c0 c1 c2 c3 c4 c6 c7
  generalize p.use.length = ln at *
  generalize (sel p.use frb).length = m at *
  go_enter Tryz.func49, Tryz.ntmps49
  go_wp2_with fail
  refine (unhide H).mono ?_
  rintro e w1 ⟨rfl, rfl⟩
  go_wp2
  go_ret
  exact ⟨rfl, rfl⟩
theorem held_any (h : PD P D d p vw vl vu w) : Calls Tryz.prog 113 #[ptr P] w fun e w' => e = .returned (I (sel p.use hdb).length) ∧ w' = w := by
  obtain ⟨c0, c1, c2, c3, c4, c5, c6, c7⟩ := h.c
  have hlt := h.lt
  have H := hide (countHeld_any h.us (by have := h.few; omega))
  obtain ⟨q, cap, rfl⟩ := owns_form h.us
  clear h c0 c1 c2 c3 c4 c6 c7
  generalize p.use.length = ln at *
  generalize (sel p.use hdb).length = m at *
  go_enter Tryz.func113, Tryz.ntmps113
  go_wp2_with fail
  refine (unhide H).mono ?_
  rintro e w1 ⟨rfl, rfl⟩
  go_wp2
  go_ret
  exact ⟨rfl, rfl⟩
/-- Numbers that came out in new memory, and one beside them. -/
def InsOut (l : List Int) (w : World) (V : Value) (w' : World) : Prop := w'.ownsRow 0 3 1 V l.length (l.map fun n => I n) ∧ (∀ k, V.ownBlock = some k → w.heap.size ≤ k)
def nxt (d : Ds) (p : Pr) (k : Int) : List Int × Int := if k < 0 then ([], 1) else if askv d p ≠ 0 then ([], askv d p) else if ((sel p.use frb).length : Int) < k then ([], 92) else ((sel p.use frb).take k.toNat, 0)
theorem next_any (h : PD P D d p vw vl vu w) (k : Int) (hk : k ≤ 9223372036854775807) : Calls Tryz.prog 48 #[ptr P, I k] w fun e w' => ∃ V, e = .returned (.tuple #[V, I (nxt d p k).2]) ∧ InsOut (nxt d p k).1 w V w' ∧ PD P D d (if k < 0 then p else p.ask d) vw vl vu w' ∧ Only (fun k => k = P) w w' := by
  have H0 := hide (ask_any h)
  have hfew := h.few
  have HD := hide h
  have HN := hide (show nxt d p k = if k < 0 then ([], 1) else if askv d p ≠ 0 then ([], askv d p) else if ((sel p.use frb).length : Int) < k then ([], 92) else ((sel p.use frb).take k.toNat, 0) from rfl)
  clear h
  by_cases hk0 : k < 0
  · rw [if_pos hk0]
    have e := unhide HN
    rw [if_pos hk0] at e
    rw [e]
    clear e HN H0
    go_enter Tryz.func48, Tryz.ntmps48
    go_wp2
    go_ret2
    exact ⟨_, rfl, ⟨owns_nil _ _ _, fun _ q => nomatch q⟩, unhide HD, Only.refl _ _⟩
  · rw [if_neg hk0]
    obtain ⟨m, rfl⟩ : ∃ m : Nat, k = (m : Int) := ⟨k.toNat, by omega⟩
    have e := unhide HN
    rw [if_neg hk0] at e
    by_cases ha : askv d p = 0
    · rw [if_neg (by simp [ha]), Int.toNat_natCast] at e
      rw [ha] at H0
      have huse : (p.ask d).use = p.use := rfl
      have HE := hide e
      clear e HN hk0
      generalize hpa : p.ask d = pa at *
      rw [← huse] at HE hfew
      generalize nxt d p m = NX at *
      clear huse hpa
      go_enter Tryz.func48, Tryz.ntmps48
      go_wp2_with fail
      refine (unhide H0).mono ?_
      rintro e w1 ⟨rfl, h1, o1⟩
      obtain ⟨c0, c1, c2, c3, c4, c5, c6, c7⟩ := h1.c
      have hlt := h1.lt
      have H1 := hide (leastFree_any h1.us m (by omega))
      obtain ⟨q, cap, hv⟩ := owns_form h1.us
      rw [hv] at c5 H1
      have H1w := hide h1
      have HO := hide o1
      clear h1 o1 hv c0 c1 c2 c3 c4 c6 c7
      generalize pa.use.length = ln at *
      go_wp2_with fail
      refine (unhide H1).mono ?_
      rintro e w2 ⟨V, rfl, r2, n2, b2⟩
      have hl2 : ((sel pa.use frb).take m).length = min m (sel pa.use frb).length := List.length_take
      rw [hl2] at r2
      have HP2 := hide ((unhide H1w).below b2)
      have HO2 := hide ((unhide HO).trans (Only.of_below (P := fun k => k = P) b2) (fun _ _ q => q))
      have HS := hide (unhide HO).size
      by_cases hs : (sel pa.use frb).length < m
      · have hmin : min m (sel pa.use frb).length = (sel pa.use frb).length := by omega
        rw [hmin] at r2
        obtain ⟨q2, cap2, rfl⟩ := owns_form r2
        have hs' : ((sel pa.use frb).length : Int) < (m : Int) := by omega
        have e := unhide HE
        rw [if_pos hs'] at e
        subst e
        clear r2 n2 b2 hl2
        generalize (sel pa.use frb).length = sl at *
        go_wp2
        go_ret2
        exact ⟨_, rfl, ⟨owns_nil _ _ _, fun _ q => nomatch q⟩, unhide HP2, unhide HO2⟩
      · have hmin : min m (sel pa.use frb).length = m := by omega
        rw [hmin] at r2 hl2
        obtain ⟨q2, cap2, rfl⟩ := owns_form r2
        have e := unhide HE
        rw [if_neg (by omega)] at e
        subst e
        have HR := hide (show InsOut ((sel pa.use frb).take m) w (.slice q2 m cap2) w2 from ⟨by rw [hl2]; exact r2, fun k hk => Nat.le_trans (unhide HS) (n2 k hk)⟩)
        clear r2 n2 b2 hl2 hs
        go_wp2
        go_ret2
        exact ⟨_, rfl, unhide HR, unhide HP2, unhide HO2⟩
    · rw [if_pos ha] at e
      rw [e]
      clear e HN
      generalize askv d p = av at *
      go_enter Tryz.func48, Tryz.ntmps48
      go_wp2_with fail
      refine (unhide H0).mono ?_
      rintro e w1 ⟨rfl, h1, o1⟩
      have H1 := hide (And.intro h1 o1)
      clear h1 o1
      go_wp2
      go_ret2
      exact ⟨_, rfl, ⟨owns_nil _ _ _, fun _ q => nomatch q⟩, unhide H1⟩
/-- What Read tells. -/
def rdp (d : Ds) (p : Pr) (n : Int) : Pg × Int := if askv d p ≠ 0 then (noPg, askv d p) else if hasv p.use n 255 = false then (noPg, 93) else prp (readS d n)
theorem hasv_in {u : Us} {n : Int} {m : UInt8} (h : hasv u n m = true) : 0 ≤ n ∧ n < u.length := by
  simp only [hasv, Bool.and_eq_true, decide_eq_true_eq] at h
  exact h.1
/-- A page comes out of its box. -/
theorem outP {fn : Func} {t q : Tmp} {W : World} {a : Act} {Z : Nat} {x : Pg} {r : Option Addr} {cap : Nat} {v : Value} {Post : Ending → World → Prop} (hf : fn.results = #[.cell t 24, .tmp q]) (hd : a.defers = []) (ht : a.tmps.getD t undef = .pointer (some ⟨Z, 0, none⟩)) (hv : a.tmps.getD q undef = v) (h : W.heap[Z]? = some (.cells (pgc x r cap) 24 (0, 0))) (hp : Post (.returned (.tuple #[pga x r cap, v])) W) : bodyPost Tryz.prog fn Post .ret a W := by
  obtain ⟨e0, e1, e2, e3, e4⟩ := box5 h (Below.refl _ _) (lt_of_row h)
  subst hv
  exact bodyPost_ret (results_p2 hf _ _ Z _ _ _ _ _ ht e0 e1 e2 e3 e4) hd hp
end Go.Proofs.YtjopnhhdemfniaaGreatDoor
namespace Go.Proofs.YtjopnhhdemfniaaGreatDoor
open Go.RowKit
set_option maxHeartbeats 8000000
set_option maxRecDepth 8000
/-- Pages in memory. -/
def Pgs (w : World) (a : Option Addr) (n : Nat) (l : List Pg) : Prop :=
  n = l.length ∧ (0 < n → ∃ g o, a = some ⟨g, o, none⟩ ∧ ∀ j, j < n → ∃ q c, w.cell? ⟨g, o + j * 5, none⟩ = some (I (l.getD j noPg).kind) ∧ w.cell? ⟨g, o + j * 5 + 1, none⟩ = some (I (l.getD j noPg).number) ∧ w.cell? ⟨g, o + j * 5 + 2, none⟩ = some (I (l.getD j noPg).birth) ∧ w.cell? ⟨g, o + j * 5 + 3, none⟩ = some (.slice q (l.getD j noPg).links.length c) ∧ w.cell? ⟨g, o + j * 5 + 4, none⟩ = some (S (l.getD j noPg).body) ∧ Ins w q (l.getD j noPg).links.length (l.getD j noPg).links)
theorem Pgs.below {w w' : World} {a : Option Addr} {n : Nat} {l : List Pg} (h : Pgs w a n l) (hb : Below w.heap.size w w') : Pgs w' a n l := by
  refine ⟨h.1, fun hn => ?_⟩
  obtain ⟨g, o, e, hc⟩ := h.2 hn
  refine ⟨g, o, e, fun j hj => ?_⟩
  obtain ⟨q, c, c0, c1, c2, c3, c4, hi⟩ := hc j hj
  have hg := blk_lt c0
  exact ⟨q, c, (hb.cell hg).trans c0, (hb.cell hg).trans c1, (hb.cell hg).trans c2, (hb.cell hg).trans c3, (hb.cell hg).trans c4, hi.below hb⟩
theorem Pgs.at {w : World} {a : Option Addr} {n : Nat} {l : List Pg} (h : Pgs w a n l) {j : Nat} (hj : j < n) : ∃ g o q c, a = some ⟨g, o, none⟩ ∧ g < w.heap.size ∧ w.cell? ⟨g, o + j * 5, none⟩ = some (I (l.getD j noPg).kind) ∧ w.cell? ⟨g, o + j * 5 + 1, none⟩ = some (I (l.getD j noPg).number) ∧ w.cell? ⟨g, o + j * 5 + 2, none⟩ = some (I (l.getD j noPg).birth) ∧ w.cell? ⟨g, o + j * 5 + 3, none⟩ = some (.slice q (l.getD j noPg).links.length c) ∧ w.cell? ⟨g, o + j * 5 + 4, none⟩ = some (S (l.getD j noPg).body) ∧ Ins w q (l.getD j noPg).links.length (l.getD j noPg).links := by
  obtain ⟨g, o, e, hc⟩ := h.2 (by omega)
  obtain ⟨q, c, c0, c1, c2, c3, c4, hi⟩ := hc j hj
  exact ⟨g, o, q, c, e, blk_lt c0, c0, c1, c2, c3, c4, hi⟩
/-- What pages bear that are not too great. -/
def Fit (l : List Pg) : Prop := ∀ x ∈ l, x.links.length ≤ 1000000000000 ∧ x.body.length ≤ 1000000000000
theorem Fit.at {l : List Pg} (h : Fit l) {k : Nat} (hk : k < l.length) : (l.getD k noPg).links.length ≤ 1000000000000 ∧ (l.getD k noPg).body.length ≤ 1000000000000 := h _ (mem_getD hk)
theorem allF_next (l : List Pg) (k : Nat) (hk : k < l.length) : (l.take (k + 1)).all Pg.fresh = ((l.take k).all Pg.fresh && (l.getD k noPg).fresh) := by
  rw [List.take_succ_eq_append_getElem hk, List.all_append]
  simp [hk]
theorem allF_bad (l : List Pg) (k : Nat) (hk : k < l.length) (h : (l.getD k noPg).fresh = false) : l.all Pg.fresh = false := by
  rw [Bool.eq_false_iff]
  intro q
  rw [List.all_eq_true] at q
  have := q (l.getD k noPg) (mem_getD hk)
  rw [h] at this
  cases this
theorem allMayBe_any (a : Option Addr) (n cap : Nat) (l : List Pg) (w : World) (hp : Pgs w a n l) (hf : Fit l) (hn : n ≤ 1000000000000) :
    Calls Tryz.prog 124 #[.slice a n cap] w fun e w' => e = .returned (.bool (l.all Pg.fresh)) ∧ Below w.heap.size w w' := by
  have hN := hp.1
  subst hN
  have HP := hide hp
  have HF := hide hf
  clear hp hf
  go_enter Tryz.func124, Tryz.ntmps124
  go_wp2
  go_loopw [7] (fun i wr => ∃ k : Nat, k ≤ l.length ∧ i = .int .i64 k ∧ (l.take k).all Pg.fresh = true ∧ Below w.heap.size w wr) (fun i _ => l.length - (Go.RowKit.intOf i).toNat)
  case atStart => exact ⟨0, by omega, rfl, rfl, Below.refl _ _⟩
  case round =>
    obtain ⟨k, hk, rfl, ha, hb⟩ := hrel
    by_cases hlt : k < l.length
    · have hlt' : (k : Int) < (l.length : Int) := by omega
      obtain ⟨g, o, q, c, rfl, hg, c0, c1, c2, c3, c4, hi⟩ := ((unhide HP).below hb).at hlt
      have hft := (unhide HF).at hlt
      have HN := hide (allF_next l k hlt)
      have HW := hide (allF_bad l k hlt)
      generalize l.getD k noPg = x at *
      have bA := (Below.refl wr.heap.size wr).alloc (Nat.le_refl _) (.cells (pgc x q c) 24)
      have H1 := hide (mayBeFresh_any x q c _ (hi.below bA) hft.1 hft.2)
      have HB := hide (hb.trans (bA.mono hb.size))
      have HA := hide ha
      clear ha hb bA hi hft
      generalize x.fresh = fr at *
      obtain ⟨xk, xn, xb, xl, xs⟩ := x
      unfold pga pgc at H1
      unfold pgc at HB
      simp only at c0 c1 c2 c3 c4 H1 HB
      generalize xl.length = m at *
      go_wp2_with fail
      refine (unhide H1).mono ?_
      rintro e w1 ⟨rfl, b1⟩
      have HB1 := hide ((unhide HB).trans (b1.mono (unhide HB).size))
      clear b1
      cases fr
      · go_wp2
        go_ret
        exact ⟨ret_bool (by first | exact (unhide HW rfl).symm | exact (unhide HW trivial).symm), unhide HB1⟩
      · have HA2 := hide (show (l.take (k + 1)).all Pg.fresh = true by rw [unhide HN, unhide HA]; rfl)
        go_wp2
        go_round
        case measure => simp [Go.RowKit.intOf]; omega
        case rel => exact ⟨k + 1, by omega, by simp, unhide HA2, unhide HB1⟩
    · have hlt' : ¬ (k : Int) < (l.length : Int) := by omega
      rw [List.take_of_length_le (by omega)] at ha
      have HA := hide ha
      have HB := hide hb
      clear ha hb
      go_wp2
      go_ret
      exact ⟨ret_bool (unhide HA).symm, unhide HB⟩
/-- Numbers half laid. -/
def hlf (l : List Int) (k : Nat) : List Value := (l.take k).map (fun z => I z) ++ List.replicate (l.length - k) (I 0)
theorem hlf_zero (l : List Int) : hlf l 0 = List.replicate l.length (I 0) := by simp [hlf]
theorem hlf_all (l : List Int) : hlf l l.length = l.map fun z => I z := by simp [hlf]
theorem hlf_len (l : List Int) (k : Nat) (hk : k ≤ l.length) : (hlf l k).length = l.length := by simp [hlf]; omega
theorem hlf_set (l : List Int) (k : Nat) (hk : k < l.length) : (hlf l k).set k (I (l.getD k 0)) = hlf l (k + 1) := by
  unfold hlf
  rw [List.set_append_right _ _ (by simp; omega)]
  have e : k - (List.map (fun z => I z) (l.take k)).length = 0 := by simp; omega
  rw [e, show l.length - k = (l.length - (k + 1)) + 1 by omega, List.replicate_succ, List.set_cons_zero, List.take_succ_eq_append_getElem hk, List.map_append, List.append_assoc]
  simp [hk]
theorem numbersOf_any (a : Option Addr) (n cap : Nat) (l : List Pg) (w : World) (hp : Pgs w a n l) (hn : n ≤ 1000000000) :
    Calls Tryz.prog 123 #[.slice a n cap] w fun e w' => ∃ V, e = .returned V ∧ w'.ownsRow 0 3 1 V n ((l.map Pg.number).map fun z => I z) ∧ (∀ k, V.ownBlock = some k → w.heap.size ≤ k) ∧ Below w.heap.size w w' := by
  have hN := hp.1
  have hml : (l.map Pg.number).length = n := by rw [List.length_map]; exact hN.symm
  have hgd : ∀ k, k < n → (l.map Pg.number).getD k 0 = (l.getD k noPg).number := by
    intro k hk
    have : k < l.length := by omega
    simp [this]
  generalize hM : l.map Pg.number = M at *
  have HP := hide hp
  have HM := hide hgd
  have HL := hide hml
  clear hp hgd hM hN
  go_enter Tryz.func123, Tryz.ntmps123
  go_wp2_with (refine make_own 22 3 _ 1 8 Tryz.underlying22 info3 rfl (.tmp 7) (.tmp 7) rfl _ _ n (by rfl) (by rfl) rfl rfl (by omega) (by omega) ?_; intro w1 ho1 b1 l1; have HO := hide ho1; have HB1 := hide b1; clear ho1 b1)
  have HO2 : Hid (w1.ownsRow 0 3 1 (.slice (some ⟨w.heap.size, 0, none⟩) n n) n (hlf M 0)) := hide (by
    have := unhide HO
    rw [hlf_zero, unhide HL]
    rw [Nat.mul_one, made1 _ rfl n] at this
    exact this)
  clear HO
  go_loopw [11] (fun i wr => ∃ k : Nat, k ≤ n ∧ i = .int .i64 k ∧ wr.ownsRow 0 3 1 (.slice (some ⟨w.heap.size, 0, none⟩) n n) n (hlf M k) ∧ Below w.heap.size w wr) (fun i _ => n - (Go.RowKit.intOf i).toNat)
  case atStart => exact ⟨0, by omega, rfl, unhide HO2, unhide HB1⟩
  case round =>
    clear HO2 HB1
    obtain ⟨k, hk, rfl, ho, hb⟩ := hrel
    by_cases hlt : k < n
    · have hlt' : (k : Int) < (n : Int) := by omega
      obtain ⟨g, o, q, c, rfl, hg, c0, c1, c2, c3, c4, hi⟩ := ((unhide HP).below hb).at hlt
      have hv : M.getD k 0 = (l.getD k noPg).number := unhide HM k hlt
      have hml := unhide HL
      have hset := hlf_set M k (by omega)
      rw [hv] at hset
      generalize l.getD k noPg = x at *
      obtain ⟨xk, xn, xb, xl, xs⟩ := x
      simp only at c0 c1 c2 c3 c4 hset
      have bA := (Below.refl wr.heap.size wr).alloc (Nat.le_refl _) (.cells #[I xk, I xn, I xb, .slice q xl.length c, S xs] 24)
      have ho2 := owns_below ho bA
      have hcell : ∃ u, (wr.alloc (.cells #[I xk, I xn, I xb, .slice q xl.length c, S xs] 24)).cell? ⟨w.heap.size, k, none⟩ = some u := ⟨_, owns_cell ho2 k _ (List.getElem?_eq_getElem (by rw [hlf_len _ _ (by omega)]; omega))⟩
      obtain ⟨u0, hu0⟩ := hcell
      obtain ⟨gg, cc, cur, ee, hh, _⟩ := owns_at ho2 (by omega)
      have hgg : w.heap.size = gg := by cases ee; rfl
      have hfz : (wr.alloc (.cells #[I xk, I xn, I xb, .slice q xl.length c, S xs] 24)).frozen? ⟨w.heap.size, k, none⟩ = false := by rw [hgg]; exact frz hh k
      have hos := owns_set ho k (I xn)
      rw [hset] at hos
      have HOS := hide (owns_alloc hos (.cells #[I xk, I xn, I xb, .slice q xl.length c, S xs] 24))
      have HB := hide ((hb.setCell (p := ⟨w.heap.size, k, none⟩) (Nat.le_refl _) (I xn)).alloc (by simp [World.setCell]; exact hb.size) (.cells #[I xk, I xn, I xb, .slice q xl.length c, S xs] 24))
      have hwl : w.heap.size < wr.heap.size := owns_blk ho _ rfl
      clear ho hb bA ho2 hos hh ee hi hset hv hml hgg
      generalize xl.length = m at *
      go_wp2
      go_round
      case measure => simp [Go.RowKit.intOf]; omega
      case rel => exact ⟨k + 1, by omega, by simp, unhide HOS, unhide HB⟩
    · have hlt' : ¬ (k : Int) < (n : Int) := by omega
      obtain rfl : k = n := by omega
      rw [show hlf M k = M.map (fun z => I z) by rw [← unhide HL]; exact hlf_all M] at ho
      have HOS := hide ho
      have HB := hide hb
      clear ho hb
      go_wp2
      go_ret
      exact ⟨_, rfl, unhide HOS, fun i hi => by cases hi; exact Nat.le_refl _, unhide HB⟩
end Go.Proofs.YtjopnhhdemfniaaGreatDoor
namespace Go.Proofs.YtjopnhhdemfniaaGreatDoor
open Go.RowKit
set_option maxHeartbeats 8000000
set_option maxRecDepth 8000
/-- Do the first k and one rise? -/
def rsk (l : List Int) (k : Nat) : Bool := (List.range k).all fun i => decide (l.getD i 0 < l.getD (i + 1) 0)
def rsg (l : List Int) : Bool := rsk l (l.length - 1)
theorem rsk_next (l : List Int) (k : Nat) : rsk l (k + 1) = (rsk l k && decide (l.getD k 0 < l.getD (k + 1) 0)) := by
  unfold rsk
  rw [List.range_succ, List.all_append]
  simp
theorem rsk_bad (l : List Int) (k m : Nat) (hk : k < m) (h : ¬ l.getD k 0 < l.getD (k + 1) 0) : rsk l m = false := by
  rw [Bool.eq_false_iff]
  intro q
  have := List.all_eq_true.1 q k (List.mem_range.2 hk)
  simp only [decide_eq_true_eq] at this
  exact h this
theorem rises_any (a : Option Addr) (n cap : Nat) (l : List Int) (w : World) (hp : Ins w a n l) (hn : n ≤ 1000000000000) :
    Calls Tryz.prog 125 #[.slice a n cap] w fun e w' => e = .returned (.bool (rsg l)) ∧ Below w.heap.size w w' := by
  have hN := hp.1
  subst hN
  have HP := hide hp
  clear hp
  have HE := hide (show rsg l = rsk l (l.length - 1) from rfl)
  generalize rsg l = R at *
  go_enter Tryz.func125, Tryz.ntmps125
  go_wp2
  go_loopw [7] (fun i wr => ∃ k : Nat, k ≤ l.length - 1 ∧ i = .int .i64 k ∧ rsk l k = true ∧ Below w.heap.size w wr) (fun i _ => l.length - (Go.RowKit.intOf i).toNat)
  case atStart => exact ⟨0, by omega, rfl, rfl, Below.refl _ _⟩
  case round =>
    obtain ⟨k, hk, rfl, ha, hb⟩ := hrel
    by_cases hlt : k < l.length - 1
    · have hlt' : (k : Int) < (l.length : Int) - 1 := by omega
      have hlt2 : (k : Int) < (l.length : Int) := by omega
      have hlt3 : (k : Int) + 1 < (l.length : Int) := by omega
      obtain ⟨p, o, rfl, hpl, hc0⟩ := ((unhide HP).below hb).at (show k < l.length by omega)
      obtain ⟨p', o', e', hpl', hc1⟩ := ((unhide HP).below hb).at (show k + 1 < l.length by omega)
      obtain ⟨rfl, rfl⟩ : p' = p ∧ o' = o := by cases e'; exact ⟨rfl, rfl⟩
      have HN := hide (rsk_next l k)
      have HW := hide (rsk_bad l k (l.length - 1) hlt)
      have HA := hide ha
      have HB := hide hb
      clear e' ha hb
      generalize l.getD k 0 = x at *
      generalize l.getD (k + 1) 0 = y at *
      by_cases hxy : x < y
      · have hxy' : ¬ y ≤ x := by omega
        have HA2 := hide (show rsk l (k + 1) = true by rw [unhide HN, unhide HA]; simp [hxy])
        go_wp2
        go_region
        all_goals go_wp2
        all_goals (
          go_round
          case measure => simp [Go.RowKit.intOf]; omega
          case rel => exact ⟨k + 1, by omega, by simp, unhide HA2, (unhide HB).drew⟩)
      · have hxy' : y ≤ x := by omega
        have HW2 := hide (unhide HW hxy)
        go_wp2
        go_region
        all_goals go_wp2
        all_goals (
          go_ret
          exact ⟨ret_bool (by rw [unhide HE, unhide HW2]), (unhide HB).drew⟩)
    · have hlt' : ¬ (k : Int) < (l.length : Int) - 1 := by omega
      obtain rfl : k = l.length - 1 := by omega
      have HA := hide ha
      have HB := hide hb
      clear ha hb
      generalize hkk : l.length - 1 = kk at *
      clear hkk
      go_wp2
      go_ret
      exact ⟨ret_bool (by rw [unhide HE, unhide HA]), unhide HB⟩
/-- Are the first k the same? -/
def eqk (a b : List Int) (k : Nat) : Bool := (List.range k).all fun i => a.getD i 0 == b.getD i 0
theorem eqk_next (a b : List Int) (k : Nat) : eqk a b (k + 1) = (eqk a b k && (a.getD k 0 == b.getD k 0)) := by
  unfold eqk
  rw [List.range_succ, List.all_append]
  simp
theorem eqk_bad (a b : List Int) (k : Nat) (h : ¬ a.getD k 0 = b.getD k 0) : decide (a = b) = false := by
  rw [decide_eq_false_iff_not]
  intro q
  rw [q] at h
  exact h rfl
theorem eqk_all (a b : List Int) (hl : a.length = b.length) (h : eqk a b a.length = true) : decide (a = b) = true := by
  rw [decide_eq_true_eq]
  apply List.ext_getElem hl
  intro i h1 h2
  have := List.all_eq_true.1 h i (List.mem_range.2 h1)
  simp [h1, h2] at this
  exact this
theorem equal_any (a a2 : Option Addr) (n n2 cap cap2 : Nat) (l l2 : List Int) (w : World) (hp : Ins w a n l) (hp2 : Ins w a2 n2 l2) (hn : n ≤ 1000000000000) (hn2 : n2 ≤ 1000000000000) :
    Calls Tryz.prog 126 #[.slice a n cap, .slice a2 n2 cap2] w fun e w' => e = .returned (.bool (decide (l = l2))) ∧ Below w.heap.size w w' := by
  have hN := hp.1
  have hN2 := hp2.1
  subst hN hN2
  have HP := hide hp
  have HP2 := hide hp2
  clear hp hp2
  have HE := hide (rfl : decide (l = l2) = decide (l = l2))
  by_cases hl : l.length = l2.length
  · have HAll := hide (eqk_all l l2 hl)
    have HBad := hide (eqk_bad l l2)
    generalize decide (l = l2) = R at *
    have hli : (l.length : Int) = (l2.length : Int) := by omega
    have hl2 : l2.length = l.length := hl.symm
    rw [hl2]
    clear hl hli
    have HL2 := hide hl2
    clear hl2
    go_enter Tryz.func126, Tryz.ntmps126
    go_wp2
    go_loopw [13] (fun i wr => ∃ k : Nat, k ≤ l.length ∧ i = .int .i64 k ∧ eqk l l2 k = true ∧ Below w.heap.size w wr) (fun i _ => l.length - (Go.RowKit.intOf i).toNat)
    case atStart => exact ⟨0, by omega, rfl, rfl, Below.refl _ _⟩
    case round =>
      obtain ⟨k, hk, rfl, ha, hb⟩ := hrel
      by_cases hlt : k < l.length
      · have hlt' : (k : Int) < (l.length : Int) := by omega
        obtain ⟨p, o, rfl, hpl, hc0⟩ := ((unhide HP).below hb).at hlt
        obtain ⟨p2, o2, rfl, hpl2, hc2⟩ := ((unhide HP2).below hb).at (show k < l2.length by have := unhide HL2; omega)
        have HN := hide (eqk_next l l2 k)
        have HW := hide (unhide HBad k)
        have HA := hide ha
        have HB := hide hb
        clear ha hb
        generalize l.getD k 0 = x at *
        generalize l2.getD k 0 = y at *
        by_cases hxy : x = y
        · subst hxy
          have HA2 := hide (show eqk l l2 (k + 1) = true by rw [unhide HN, unhide HA]; simp)
          go_wp2
          go_region
          all_goals go_wp2
          all_goals (
            go_round
            case measure => simp [Go.RowKit.intOf]; omega
            case rel => exact ⟨k + 1, by omega, by simp, unhide HA2, (unhide HB).drew⟩)
        · have hxy' : (x == y) = false := by rw [beq_eq_false_iff_ne]; exact hxy
          have HW2 := hide (unhide HW hxy)
          go_wp2
          go_region
          all_goals go_wp2
          all_goals (
            go_ret
            exact ⟨ret_bool (unhide HW2).symm, (unhide HB).drew⟩)
      · have hlt' : ¬ (k : Int) < (l.length : Int) := by omega
        obtain rfl : k = l.length := by omega
        have HA := hide (unhide HAll ha)
        have HB := hide hb
        clear ha hb
        go_wp2
        go_ret
        exact ⟨ret_bool (unhide HA).symm, unhide HB⟩
  · have hR : decide (l = l2) = false := by
      rw [decide_eq_false_iff_not]
      intro q
      exact hl (by rw [q])
    rw [hR]
    have hli : ((l.length : Int) == (l2.length : Int)) = false := by rw [beq_eq_false_iff_ne]; omega
    generalize l.length = m at *
    generalize l2.length = m2 at *
    go_enter Tryz.func126, Tryz.ntmps126
    go_wp2
    go_ret
    exact ⟨rfl, Below.refl _ _⟩
end Go.Proofs.YtjopnhhdemfniaaGreatDoor
namespace Go.Proofs.YtjopnhhdemfniaaGreatDoor
open Go.RowKit
set_option maxHeartbeats 8000000
set_option maxRecDepth 8000
theorem wp_appU {ops : Array Oper} {rest : List Oper} {o : Oper} {a : Act} {Q : Exit → Act → World → Prop} {w : World} (hgd : o.guard = none) (s x : Operand) (ho : o.op = .call { callee := .builtin .append, args := #[s, x], argTypes := #[168, 168] })
    (v : Value) (hs : a.eval s = v) (hown : w.ownsRow 0 5 1 v 0 []) (g m c : Nat) (u : Us) (hm : u.length = m) (hx : a.eval x = .slice (some ⟨g, 0, none⟩) m c) (hsrc : ∀ j z, (u.map B)[j]? = some z → w.cell? ⟨g, j, none⟩ = some z) (hl : m ≤ 1000000)
    (h : ∀ p cap w', w'.ownsRow 0 5 1 (.slice p m cap) m (u.map B) → Only (fun k => v.ownBlock = some k) w w' → (∀ k, (Value.slice p m cap).ownBlock = some k → v.ownBlock = some k ∨ w.heap.size ≤ k) → wpList Tryz.prog ops Q rest (a.put o.dst (.slice p m cap)) w') :
    wpList Tryz.prog ops Q (o :: rest) a w := by
  obtain ⟨i0, hi, hz0, hz1, hz2⟩ := info_parts info5
  obtain ⟨v', w', hr, h2, h3, _, h5⟩ := run_append_own_at (P := Tryz.prog) w 0 168 o.type 5 i0 (.int .u8 0) 1 1 Tryz.underlying168 hi hz0 hz1 hz2 rfl (by decide) v 0 [] hown ⟨g, 0, none⟩ m c (u.map B) (by rw [List.length_map, hm]; omega) (fun j z hj => by rw [add_at]; exact hsrc j z hj) (by intro z hz; obtain ⟨y, _, rfl⟩ := List.mem_map.1 hz; rfl) (by unfold maxLen; omega) (by omega) (Nat.zero_le _)
  rw [Nat.zero_add, List.nil_append] at h2
  obtain ⟨p, cap, rfl⟩ := owns_form h2
  refine wpList_plain hgd fun K hK => ?_
  unfold Oper.wp execOp
  simp only [ho, resolve, invoke, builtin, Sem.run_bind, Sem.run_pure, Result.andThen_ok, List.map_toArray, List.map_cons, List.map_nil, hs, hx, hr]
  refine hK _ _ (h p cap w' h2 (Only.of_grown h3) ?_)
  intro k hk
  rcases h5 with h5 | h5
  · left; rw [← h5]; exact hk
  · right; rw [hk] at h5; have := Option.some.inj h5; omega
theorem cloneU_any {v : Value} {u : Us} {w : World} (h : Uls w v u) (h0 : 0 < u.length) (hl : u.length ≤ 1000000) : Calls Tryz.prog 191 #[v] w fun e w' => ∃ V, e = .returned V ∧ Uls w' V u ∧ (∀ k, V.ownBlock = some k → w.heap.size ≤ k) ∧ Below w.heap.size w w' := by
  obtain ⟨g, cap, cur, rfl, hg, _⟩ := owns_at h h0
  have hsrc := fun j z (hj : (u.map B)[j]? = some z) => owns_cell h j z hj
  have bA := (Below.refl w.heap.size w).alloc (Nat.le_refl _) (.cells #[] 5)
  have hgn := heap_alloc_new w (.cells #[] 5)
  have hown : (w.alloc (.cells #[] 5)).ownsRow 0 5 1 (.slice (some ⟨w.heap.size, 0, none⟩) 0 0) 0 [] := ⟨rfl, .inr ⟨w.heap.size, 0, #[], rfl, Nat.zero_le _, hgn, Nat.le_refl _, by unfold maxLen; omega, rfl, rfl⟩⟩
  have hsrc2 : ∀ j z, (u.map B)[j]? = some z → (w.alloc (.cells #[] 5)).cell? ⟨g, j, none⟩ = some z := fun j z hj => (bA.cell (lt_of_row hg)).trans (hsrc j z hj)
  have HS := hide hsrc2
  have HO := hide hown
  have HB := hide bA
  have hlg := lt_of_row hg
  clear hsrc hsrc2 hown bA hgn h hg
  generalize hm : u.length = m at *
  have HM := hide hm
  clear hm
  have hnil : ∀ W : World, (binOp BinOp.eql 168 (Value.slice (some ⟨g, 0, none⟩) m cap) (Value.slice none 0 0)).run Tryz.prog W = .ok (.bool false) W := fun W => by
    first | rfl | simp [binOp, go_sem, Tryz.underlying168] | (unfold binOp; simp [go_sem, Tryz.underlying168])
  go_enter Tryz.func191, Tryz.ntmps191
  go_wp2_with (at_builtin; refine wp_appU rfl (.tmp 5) (.tmp 6) rfl (.slice (some ⟨w.heap.size, 0, none⟩) 0 0) (by rfl) (unhide HO) g m cap u (unhide HM) (by rfl) (unhide HS) hl ?_; intro p3 c3 w3 r3 o3 n3; have HR3 := hide r3; have HO3 := hide o3; have HN3 := hide n3; clear r3 o3 n3)
  go_ret
  refine ⟨_, rfl, ?_, fun k hk => ?_, ?_⟩
  · unfold Uls
    rw [unhide HM]
    exact unhide HR3
  · rcases unhide HN3 k hk with e | e
    · cases e
      exact Nat.le_refl _
    · exact Nat.le_trans (unhide HB).size e
  · exact (unhide HO3).below (unhide HB) (unhide HB).size (fun k hk => by cases hk; exact Nat.le_refl _)
end Go.Proofs.YtjopnhhdemfniaaGreatDoor
namespace Go.Proofs.YtjopnhhdemfniaaGreatDoor
open Go.RowKit
set_option maxHeartbeats 8000000
set_option maxRecDepth 8000
theorem u8_andNot (a : UInt8) : bits .andNot .u8 (a.toNat : Int) 1 = ((a &&& 254).toNat : Int) := by
  have : ∀ x : Fin 256, bits .andNot .u8 ((UInt8.ofNat x.val).toNat : Int) 1 = (((UInt8.ofNat x.val) &&& 254).toNat : Int) := by decide
  have h := this ⟨a.toNat, a.toNat_lt⟩
  simpa using h
theorem u8_or1 (a : UInt8) : bits .or .u8 (a.toNat : Int) 1 = ((a ||| 1).toNat : Int) := by
  have : ∀ x : Fin 256, bits .or .u8 ((UInt8.ofNat x.val).toNat : Int) 1 = (((UInt8.ofNat x.val) ||| 1).toNat : Int) := by decide
  have h := this ⟨a.toNat, a.toNat_lt⟩
  simpa using h
/-- Bits of some blocks turned, one by one. -/
def trn (f : UInt8 → UInt8) (u : Us) (l : List Int) : Us := l.foldl (fun u n => u.set n.toNat (f (u.getD n.toNat 0))) u
theorem trn_next (f : UInt8 → UInt8) (u : Us) (l : List Int) (k : Nat) (hk : k < l.length) : trn f u (l.take (k + 1)) = (trn f u (l.take k)).set (l.getD k 0).toNat (f ((trn f u (l.take k)).getD (l.getD k 0).toNat 0)) := by
  unfold trn
  rw [List.take_succ_eq_append_getElem hk, List.foldl_append]
  simp [hk]
theorem trn_len (f : UInt8 → UInt8) (u : Us) (l : List Int) : (trn f u l).length = u.length := by
  unfold trn
  induction l generalizing u with
  | nil => rfl
  | cons n l ih => rw [List.foldl_cons, ih, List.length_set]
theorem Uls.set {w : World} {g cap : Nat} {u : Us} (h : Uls w (.slice (some ⟨g, 0, none⟩) u.length cap) u) (j : Nat) (x : UInt8) : Uls (w.setCell ⟨g, j, none⟩ (.int .u8 (x.toNat : Int))) (.slice (some ⟨g, 0, none⟩) u.length cap) (u.set j x) := by
  have := owns_set h j (B x)
  unfold Uls
  rw [List.length_set, show (u.set j x).map B = (u.map B).set j (B x) by rw [List.map_set]]
  exact this
def after (u : Us) (fresh gone : List Int) : Us := trn (· ||| 1) (trn (· &&& 254) u gone) fresh
theorem turned_any {v : Value} {u : Us} {w : World} (h : Uls w v u) (h0 : 0 < u.length) (hl : u.length ≤ 1000000) (a1 a2 : Option Addr) (n1 n2 c1 c2 : Nat) (fresh gone : List Int) (hf : Ins w a1 n1 fresh) (hg : Ins w a2 n2 gone) (hfi : ∀ k, k < n1 → 0 ≤ fresh.getD k 0 ∧ fresh.getD k 0 < u.length) (hgi : ∀ k, k < n2 → 0 ≤ gone.getD k 0 ∧ gone.getD k 0 < u.length) (hn1 : n1 ≤ 1000000000000) (hn2 : n2 ≤ 1000000000000) :
    Calls Tryz.prog 128 #[v, .slice a1 n1 c1, .slice a2 n2 c2] w fun e w' => ∃ V, e = .returned V ∧ Uls w' V (after u fresh gone) ∧ (∀ k, V.ownBlock = some k → w.heap.size ≤ k) ∧ Below w.heap.size w w' := by
  have H0 := hide (cloneU_any h h0 hl)
  have hN1 := hf.1
  have hN2 := hg.1
  have HF := hide hf
  have HG := hide hg
  have HFI := hide hfi
  have HGI := hide hgi
  have HN1 := hide hN1
  have HN2 := hide hN2
  obtain ⟨q, cap, rfl⟩ := owns_form h
  clear h hf hg hfi hgi hN1 hN2
  generalize hul : u.length = ul at *
  have HUL := hide hul
  clear hul
  go_enter Tryz.func128, Tryz.ntmps128
  go_wp2_with fail
  refine (unhide H0).mono ?_
  rintro e w1 ⟨V, rfl, u1, v1, b1⟩
  obtain ⟨gg, cc, cur, rfl, hgg, _⟩ := owns_at u1 (by rw [unhide HUL]; exact h0)
  have hge : w.heap.size ≤ gg := v1 gg rfl
  have HU1 := hide u1
  have HB1 := hide b1
  rw [unhide HUL]
  clear u1 v1 b1 hgg H0
  go_wp2
  go_loopw [16] (fun i wr => ∃ k : Nat, k ≤ n2 ∧ i = .int .i64 k ∧ Uls wr (.slice (some ⟨gg, 0, none⟩) ul cc) (trn (· &&& 254) u (gone.take k)) ∧ Below w.heap.size w wr) (fun i _ => n2 - (Go.RowKit.intOf i).toNat)
  case atStart => exact ⟨0, by omega, rfl, by have := unhide HU1; rw [unhide HUL] at this; exact this, unhide HB1⟩
  case round =>
    clear HU1 HB1
    obtain ⟨k, hk, rfl, hu, hb⟩ := hrel
    have htl : (trn (· &&& 254) u (gone.take k)).length = ul := by rw [trn_len]; exact unhide HUL
    by_cases hlt : k < n2
    · have hlt' : (k : Int) < (n2 : Int) := by omega
      obtain ⟨p, o, rfl, hpl, hc0⟩ := ((unhide HG).below hb).at hlt
      obtain ⟨i0, i1⟩ := unhide HGI k hlt
      have HNX := hide (trn_next (· &&& 254) u gone k (by have := unhide HN2; omega))
      generalize gone.getD k 0 = z at *
      obtain ⟨j, rfl⟩ : ∃ j : Nat, z = (j : Int) := ⟨z.toNat, by omega⟩
      rw [Int.toNat_natCast] at HNX
      have hj : j < ul := by omega
      rw [← htl] at hu
      obtain ⟨g2, cap2, e2, hg2, hc2⟩ := hu.at (show j < (trn (· &&& 254) u (gone.take k)).length by omega)
      have hs := hu.set j ((trn (· &&& 254) u (gone.take k)).getD j 0 &&& 254)
      rw [htl, ← unhide HNX] at hs
      cases e2
      have ha := u8_andNot ((trn (· &&& 254) u (gone.take k)).getD j 0)
      rw [htl] at hu
      obtain ⟨_, _, cu, eu, hcu, _⟩ := owns_at (show wr.ownsRow 0 5 1 (.slice (some ⟨gg, 0, none⟩) ul cc) (trn (· &&& 254) u (gone.take k)).length _ from hu) (by omega)
      have hfz : wr.frozen? ⟨gg, j, none⟩ = false := by cases eu; exact frz hcu j
      have hxx := ((trn (· &&& 254) u (gone.take k)).getD j 0).toNat_lt
      have hyy := ((trn (· &&& 254) u (gone.take k)).getD j 0 &&& 254).toNat_lt
      generalize ((trn (· &&& 254) u (gone.take k)).getD j 0 &&& 254).toNat = y at *
      generalize ((trn (· &&& 254) u (gone.take k)).getD j 0).toNat = x at *
      have HS := hide hs
      have HB := hide (hb.setCell (p := ⟨gg, j, none⟩) hge (.int .u8 (y : Int)))
      clear hs hb hu htl hcu eu
      go_wp2
      go_round
      case measure => simp [Go.RowKit.intOf]; omega
      case rel => exact ⟨k + 1, by omega, by simp, unhide HS, unhide HB⟩
    · have hlt' : ¬ (k : Int) < (n2 : Int) := by omega
      rw [List.take_of_length_le (by have := unhide HN2; omega)] at hu htl
      obtain ⟨U2, hU2⟩ : ∃ U2, U2 = trn (· &&& 254) u gone := ⟨_, rfl⟩
      rw [← hU2] at hu htl
      have HA := hide (show after u fresh gone = trn (· ||| 1) U2 fresh by rw [hU2]; rfl)
      have HU := hide hu
      have HB := hide hb
      have HTL := hide htl
      clear hu hb htl hU2
      go_wp2
      go_loopw [29] (fun i wq => ∃ k : Nat, k ≤ n1 ∧ i = .int .i64 k ∧ Uls wq (.slice (some ⟨gg, 0, none⟩) ul cc) (trn (· ||| 1) U2 (fresh.take k)) ∧ Below w.heap.size w wq) (fun i _ => n1 - (Go.RowKit.intOf i).toNat)
      case atStart => exact ⟨0, by omega, rfl, unhide HU, unhide HB⟩
      case round =>
        clear HU HB
        obtain ⟨k, hk, rfl, hu, hb⟩ := hrel
        have htl : (trn (· ||| 1) U2 (fresh.take k)).length = ul := by rw [trn_len]; exact unhide HTL
        by_cases hlt : k < n1
        · have hlt' : (k : Int) < (n1 : Int) := by omega
          obtain ⟨p, o, rfl, hpl, hc0⟩ := ((unhide HF).below hb).at hlt
          obtain ⟨i0, i1⟩ := unhide HFI k hlt
          have HNX := hide (trn_next (· ||| 1) U2 fresh k (by have := unhide HN1; omega))
          generalize fresh.getD k 0 = z at *
          obtain ⟨j, rfl⟩ : ∃ j : Nat, z = (j : Int) := ⟨z.toNat, by omega⟩
          rw [Int.toNat_natCast] at HNX
          have hj : j < ul := by omega
          rw [← htl] at hu
          obtain ⟨g2, cap2, e2, hg2, hc2⟩ := hu.at (show j < (trn (· ||| 1) U2 (fresh.take k)).length by omega)
          have hs := hu.set j ((trn (· ||| 1) U2 (fresh.take k)).getD j 0 ||| 1)
          rw [htl, ← unhide HNX] at hs
          cases e2
          have ha := u8_or1 ((trn (· ||| 1) U2 (fresh.take k)).getD j 0)
          rw [htl] at hu
          obtain ⟨_, _, cu, eu, hcu, _⟩ := owns_at (show wr.ownsRow 0 5 1 (.slice (some ⟨gg, 0, none⟩) ul cc) (trn (· ||| 1) U2 (fresh.take k)).length _ from hu) (by omega)
          have hfz : wr.frozen? ⟨gg, j, none⟩ = false := by cases eu; exact frz hcu j
          have hxx := ((trn (· ||| 1) U2 (fresh.take k)).getD j 0).toNat_lt
          have hyy := ((trn (· ||| 1) U2 (fresh.take k)).getD j 0 ||| 1).toNat_lt
          generalize ((trn (· ||| 1) U2 (fresh.take k)).getD j 0 ||| 1).toNat = y at *
          generalize ((trn (· ||| 1) U2 (fresh.take k)).getD j 0).toNat = x at *
          have HS := hide hs
          have HB := hide (hb.setCell (p := ⟨gg, j, none⟩) hge (.int .u8 (y : Int)))
          clear hs hb hu htl hcu eu
          go_wp2
          go_round
          case measure => simp [Go.RowKit.intOf]; omega
          case rel => exact ⟨k + 1, by omega, by simp, unhide HS, unhide HB⟩
        · have hlt' : ¬ (k : Int) < (n1 : Int) := by omega
          rw [List.take_of_length_le (by have := unhide HN1; omega)] at hu
          have HU := hide hu
          have HB := hide hb
          clear hu hb htl
          go_wp2
          go_ret
          refine ⟨_, rfl, ?_, fun i hi => ?_, unhide HB⟩
          · rw [unhide HA]; exact unhide HU
          · cases hi; exact hge
end Go.Proofs.YtjopnhhdemfniaaGreatDoor
namespace Go.Proofs.YtjopnhhdemfniaaGreatDoor
open Go.RowKit
set_option maxHeartbeats 8000000
set_option maxRecDepth 8000
theorem allH_next (u : Us) (l : List Int) (k : Nat) (hk : k < l.length) : (l.take (k + 1)).all (hasv u · 1) = ((l.take k).all (hasv u · 1) && hasv u (l.getD k 0) 1) := by
  rw [List.take_succ_eq_append_getElem hk, List.all_append]
  simp [hk]
theorem allH_bad (u : Us) (l : List Int) (k : Nat) (hk : k < l.length) (h : hasv u (l.getD k 0) 1 = false) : l.all (hasv u · 1) = false := by
  rw [Bool.eq_false_iff]
  intro q
  have := List.all_eq_true.1 q (l.getD k 0) (mem_getD hk)
  rw [h] at this
  cases this
/-- Numbers that are numbers of the machine. -/
def Mch (l : List Int) : Prop := ∀ z ∈ l, z ≤ 9223372036854775807
section
variable {P D : Nat} {d : Ds} {p : Pr} {vw vl vu : Value} {w w' : World}
theorem reachesAll_any (h : PD P D d p vw vl vu w) (a : Option Addr) (n cap : Nat) (l : List Int) (hp : Ins w a n l) (hm : Mch l) (hn : n ≤ 1000000000000) :
    Calls Tryz.prog 127 #[ptr P, .slice a n cap] w fun e w' => e = .returned (.bool (l.all (hasv p.use · 1))) ∧ w' = w := by
  have hN := hp.1
  subst hN
  obtain ⟨c0, c1, c2, c3, c4, c5, c6, c7⟩ := h.c
  have hlt := h.lt
  have HU := hide h.us
  obtain ⟨q, cap2, hv⟩ := owns_form h.us
  have HH := hide (fun z (hz : z ≤ 9223372036854775807) => has_any h.us z 1 hz)
  rw [hv] at c5 HH
  have HP := hide hp
  have HMc := hide hm
  clear h hp hm c0 c1 c2 c3 c4 c6 c7 hv
  generalize p.use = u at *
  generalize u.length = ul at *
  go_enter Tryz.func127, Tryz.ntmps127
  go_wp2
  go_loopw [9] (fun i wr => ∃ k : Nat, k ≤ l.length ∧ i = .int .i64 k ∧ (l.take k).all (hasv u · 1) = true ∧ wr = w) (fun i _ => l.length - (Go.RowKit.intOf i).toNat)
  case atStart => exact ⟨0, by omega, rfl, rfl, rfl⟩
  case round =>
    obtain ⟨k, hk, rfl, ha, rfl⟩ := hrel
    by_cases hlt' : k < l.length
    · have hlt2 : (k : Int) < (l.length : Int) := by omega
      obtain ⟨p2, o, rfl, hpl, hc0⟩ := (unhide HP).at hlt'
      have HN := hide (allH_next u l k hlt')
      have HW := hide (allH_bad u l k hlt')
      have H1 := hide (unhide HH (l.getD k 0) (unhide HMc _ (mem_getD hlt')))
      unfold B at H1
      change Hid (Calls Tryz.prog 132 #[.slice q ul cap2, I (l.getD k 0), .int .u8 1] wr _) at H1
      have HA := hide ha
      clear ha
      generalize l.getD k 0 = x at *
      cases hx : hasv u x 1
      · rw [hx] at H1
        have HW2 := hide (unhide HW hx)
        clear hx
        go_wp2_with fail
        refine (unhide H1).mono ?_
        rintro e w2 ⟨rfl, hw⟩
        rw [hw]
        clear hw w2
        go_wp2
        go_ret
        exact ⟨ret_bool (by rw [unhide HW2]), rfl⟩
      · rw [hx] at H1
        have HA2 := hide (show (l.take (k + 1)).all (hasv u · 1) = true by rw [unhide HN, unhide HA, hx]; rfl)
        clear hx
        go_wp2_with fail
        refine (unhide H1).mono ?_
        rintro e w2 ⟨rfl, hw⟩
        rw [hw]
        clear hw w2
        go_wp2
        go_round
        case measure => simp [Go.RowKit.intOf]; omega
        case rel => exact ⟨k + 1, by omega, by simp, unhide HA2, by first | trivial | rfl⟩
    · have hlt2 : ¬ (k : Int) < (l.length : Int) := by omega
      rw [List.take_of_length_le (by omega)] at ha
      have HA := hide ha
      clear ha
      go_wp2
      go_ret
      exact ⟨ret_bool (by rw [unhide HA]), rfl⟩
end
/-- Do the links of pages name only what is reached? -/
def lkb (u : Us) (x : Pg) : Bool := x.links.all (hasv u · 1)
def clo (u : Us) (l : List Pg) (root : Int) : Bool := (decide (root = 0) || hasv u root 1) && l.all (lkb u)
theorem allL_next (u : Us) (l : List Pg) (k : Nat) (hk : k < l.length) : (l.take (k + 1)).all (lkb u) = ((l.take k).all (lkb u) && lkb u (l.getD k noPg)) := by
  rw [List.take_succ_eq_append_getElem hk, List.all_append]
  simp [hk]
theorem allL_bad (u : Us) (l : List Pg) (k : Nat) (hk : k < l.length) (h : lkb u (l.getD k noPg) = false) : l.all (lkb u) = false := by
  rw [Bool.eq_false_iff]
  intro q
  have := List.all_eq_true.1 q (l.getD k noPg) (mem_getD hk)
  rw [h] at this
  cases this
theorem closed_any {v : Value} {u : Us} {w : World} (h : Uls w v u) (a : Option Addr) (n cap : Nat) (l : List Pg) (hp : Pgs w a n l) (root : Int) (hr : root ≤ 9223372036854775807) (hm : ∀ x ∈ l, Mch x.links ∧ x.links.length ≤ 1000000000000) (hn : n ≤ 1000000000000) :
    Calls Tryz.prog 129 #[v, .slice a n cap, I root] w fun e w' => e = .returned (.bool (clo u l root)) ∧ Below w.heap.size w w' := by
  have hN := hp.1
  subst hN
  obtain ⟨q, cap2, hv⟩ := owns_form h
  have HH := hide (fun W (b : Below w.heap.size w W) z (hz : z ≤ 9223372036854775807) => has_any (show Uls W v u from owns_below h b) z 1 hz)
  subst hv
  unfold B at HH
  change Hid (∀ W, Below w.heap.size w W → ∀ z, z ≤ 9223372036854775807 → Calls Tryz.prog 132 #[.slice q u.length cap2, I z, .int .u8 1] W fun e w' => e = .returned (.bool (hasv u z 1)) ∧ w' = W) at HH
  have HP := hide hp
  have HMc := hide hm
  have HE := hide (show clo u l root = ((decide (root = 0) || hasv u root 1) && l.all (lkb u)) from rfl)
  generalize clo u l root = R at *
  generalize u.length = ul at *
  clear h hp hm
  by_cases hroot : (decide (root = 0) || hasv u root 1) = true
  · have HE2 := hide (show R = l.all (lkb u) by rw [unhide HE, hroot]; rfl)
    have HC : root = 0 ∨ (root ≠ 0 ∧ hasv u root 1 = true) := by
      by_cases h0 : root = 0
      · exact .inl h0
      · exact .inr ⟨h0, by simpa [h0] using hroot⟩
    have H1 := hide (unhide HH w (Below.refl _ _) root hr)
    clear hroot HE
    rcases HC with h0 | ⟨h0, h1⟩
    · subst h0
      go_enter Tryz.func129, Tryz.ntmps129
      go_wp2
      go_loopw [21] (fun i wr => ∃ k : Nat, k ≤ l.length ∧ i = .int .i64 k ∧ (l.take k).all (lkb u) = true ∧ Below w.heap.size w wr) (fun i _ => l.length - (Go.RowKit.intOf i).toNat)
      case atStart => exact ⟨0, by omega, rfl, rfl, Below.refl _ _⟩
      case round =>
        obtain ⟨k, hk, rfl, ha, hb⟩ := hrel
        by_cases hlt : k < l.length
        · have hlt' : (k : Int) < (l.length : Int) := by omega
          obtain ⟨g, o, q3, c, rfl, hg, c0, c1, c2, c3, c4, hi⟩ := ((unhide HP).below hb).at hlt
          have hmx := unhide HMc _ (mem_getD (z := noPg) hlt)
          have HN := hide (allL_next u l k hlt)
          have HW := hide (allL_bad u l k hlt)
          have HLK := hide (show lkb u (l.getD k noPg) = (l.getD k noPg).links.all (hasv u · 1) from rfl)
          generalize lkb u (l.getD k noPg) = LK at *
          generalize l.getD k noPg = x at *
          obtain ⟨xk, xn, xb, xl, xs⟩ := x
          simp only at c0 c1 c2 c3 c4 hi hmx HLK
          have bA := (Below.refl wr.heap.size wr).alloc (Nat.le_refl _) (.cells #[I xk, I xn, I xb, .slice q3 xl.length c, S xs] 24)
          have HB := hide (hb.trans (bA.mono hb.size))
          have HI := hide (hi.below bA)
          have HMX := hide hmx.1
          have hxl := hmx.2
          have HA := hide ha
          clear ha hb bA hi hmx
          go_wp2
          generalize hW1 : wr.alloc (.cells #[I xk, I xn, I xb, .slice q3 xl.length c, S xs] 24) = W1 at *
          go_loopw [28] (fun i wq => ∃ m : Nat, m ≤ xl.length ∧ i = .int .i64 m ∧ (xl.take m).all (hasv u · 1) = true ∧ wq = W1) (fun i _ => xl.length - (Go.RowKit.intOf i).toNat)
          case atStart => exact ⟨0, by omega, rfl, rfl, rfl⟩
          case round =>
            obtain ⟨m, hm, rfl, hma, hwq⟩ := hrel
            subst hwq
            by_cases hmlt : m < xl.length
            · have hmlt' : (m : Int) < (xl.length : Int) := by omega
              obtain ⟨p2, o2, rfl, hpl2, hcm⟩ := (unhide HI).at hmlt
              have HN2 := hide (allH_next u xl m hmlt)
              have HW2 := hide (allH_bad u xl m hmlt)
              have H2 := hide (unhide HH _ (unhide HB) (xl.getD m 0) (unhide HMX _ (mem_getD hmlt)))
              have HMA := hide hma
              clear hma
              generalize xl.getD m 0 = z at *
              cases hz : hasv u z 1
              · rw [hz] at H2
                have HW3 := hide (show R = false by rw [unhide HE2]; exact unhide HW (by rw [unhide HLK]; exact unhide HW2 hz))
                clear hz
                go_wp2_with fail
                refine (unhide H2).mono ?_
                rintro e w2 ⟨rfl, hw⟩
                rw [hw]
                clear hw w2
                go_wp2
                go_ret
                exact ⟨ret_bool (by rw [unhide HW3]), unhide HB⟩
              · rw [hz] at H2
                have HA3 := hide (show (xl.take (m + 1)).all (hasv u · 1) = true by rw [unhide HN2, unhide HMA, hz]; rfl)
                clear hz
                go_wp2_with fail
                refine (unhide H2).mono ?_
                rintro e w2 ⟨rfl, hw⟩
                rw [hw]
                clear hw w2
                go_wp2
                go_round
                case measure => simp [Go.RowKit.intOf]; omega
                case rel => exact ⟨m + 1, by omega, by simp, unhide HA3, by first | trivial | rfl⟩
            · have hmlt' : ¬ (m : Int) < (xl.length : Int) := by omega
              rw [List.take_of_length_le (by omega)] at hma
              have HA3 := hide (show (l.take (k + 1)).all (lkb u) = true by rw [unhide HN, unhide HA, unhide HLK, hma]; rfl)
              clear hma
              go_wp2
              go_round
              case measure => simp [Go.RowKit.intOf]; omega
              case rel => exact ⟨k + 1, by omega, by simp, unhide HA3, unhide HB⟩
        · have hlt' : ¬ (k : Int) < (l.length : Int) := by omega
          rw [List.take_of_length_le (by omega)] at ha
          have HA := hide ha
          have HB := hide hb
          clear ha hb
          go_wp2
          go_ret
          exact ⟨ret_bool (by rw [unhide HE2, unhide HA]), unhide HB⟩
    · rw [h1] at H1
      have h0' : (root != 0) = true := by rw [bne_iff_ne]; exact h0
      clear h0 h1
      go_enter Tryz.func129, Tryz.ntmps129
      go_wp2_with (go_at_call 132; refine (unhide H1).mono ?_; rintro e w2 ⟨rfl, hw⟩; rw [hw]; clear hw w2)
      go_loopw [21] (fun i wr => ∃ k : Nat, k ≤ l.length ∧ i = .int .i64 k ∧ (l.take k).all (lkb u) = true ∧ Below w.heap.size w wr) (fun i _ => l.length - (Go.RowKit.intOf i).toNat)
      case atStart => exact ⟨0, by omega, rfl, rfl, Below.refl _ _⟩
      case round =>
        obtain ⟨k, hk, rfl, ha, hb⟩ := hrel
        by_cases hlt : k < l.length
        · have hlt' : (k : Int) < (l.length : Int) := by omega
          obtain ⟨g, o, q3, c, rfl, hg, c0, c1, c2, c3, c4, hi⟩ := ((unhide HP).below hb).at hlt
          have hmx := unhide HMc _ (mem_getD (z := noPg) hlt)
          have HN := hide (allL_next u l k hlt)
          have HW := hide (allL_bad u l k hlt)
          have HLK := hide (show lkb u (l.getD k noPg) = (l.getD k noPg).links.all (hasv u · 1) from rfl)
          generalize lkb u (l.getD k noPg) = LK at *
          generalize l.getD k noPg = x at *
          obtain ⟨xk, xn, xb, xl, xs⟩ := x
          simp only at c0 c1 c2 c3 c4 hi hmx HLK
          have bA := (Below.refl wr.heap.size wr).alloc (Nat.le_refl _) (.cells #[I xk, I xn, I xb, .slice q3 xl.length c, S xs] 24)
          have HB := hide (hb.trans (bA.mono hb.size))
          have HI := hide (hi.below bA)
          have HMX := hide hmx.1
          have hxl := hmx.2
          have HA := hide ha
          clear ha hb bA hi hmx
          go_wp2
          generalize hW1 : wr.alloc (.cells #[I xk, I xn, I xb, .slice q3 xl.length c, S xs] 24) = W1 at *
          go_loopw [28] (fun i wq => ∃ m : Nat, m ≤ xl.length ∧ i = .int .i64 m ∧ (xl.take m).all (hasv u · 1) = true ∧ wq = W1) (fun i _ => xl.length - (Go.RowKit.intOf i).toNat)
          case atStart => exact ⟨0, by omega, rfl, rfl, rfl⟩
          case round =>
            obtain ⟨m, hm, rfl, hma, hwq⟩ := hrel
            subst hwq
            by_cases hmlt : m < xl.length
            · have hmlt' : (m : Int) < (xl.length : Int) := by omega
              obtain ⟨p2, o2, rfl, hpl2, hcm⟩ := (unhide HI).at hmlt
              have HN2 := hide (allH_next u xl m hmlt)
              have HW2 := hide (allH_bad u xl m hmlt)
              have H2 := hide (unhide HH _ (unhide HB) (xl.getD m 0) (unhide HMX _ (mem_getD hmlt)))
              have HMA := hide hma
              clear hma
              generalize xl.getD m 0 = z at *
              cases hz : hasv u z 1
              · rw [hz] at H2
                have HW3 := hide (show R = false by rw [unhide HE2]; exact unhide HW (by rw [unhide HLK]; exact unhide HW2 hz))
                clear hz
                go_wp2_with fail
                refine (unhide H2).mono ?_
                rintro e w2 ⟨rfl, hw⟩
                rw [hw]
                clear hw w2
                go_wp2
                go_ret
                exact ⟨ret_bool (by rw [unhide HW3]), unhide HB⟩
              · rw [hz] at H2
                have HA3 := hide (show (xl.take (m + 1)).all (hasv u · 1) = true by rw [unhide HN2, unhide HMA, hz]; rfl)
                clear hz
                go_wp2_with fail
                refine (unhide H2).mono ?_
                rintro e w2 ⟨rfl, hw⟩
                rw [hw]
                clear hw w2
                go_wp2
                go_round
                case measure => simp [Go.RowKit.intOf]; omega
                case rel => exact ⟨m + 1, by omega, by simp, unhide HA3, by first | trivial | rfl⟩
            · have hmlt' : ¬ (m : Int) < (xl.length : Int) := by omega
              rw [List.take_of_length_le (by omega)] at hma
              have HA3 := hide (show (l.take (k + 1)).all (lkb u) = true by rw [unhide HN, unhide HA, unhide HLK, hma]; rfl)
              clear hma
              go_wp2
              go_round
              case measure => simp [Go.RowKit.intOf]; omega
              case rel => exact ⟨k + 1, by omega, by simp, unhide HA3, unhide HB⟩
        · have hlt' : ¬ (k : Int) < (l.length : Int) := by omega
          rw [List.take_of_length_le (by omega)] at ha
          have HA := hide ha
          have HB := hide hb
          clear ha hb
          go_wp2
          go_ret
          exact ⟨ret_bool (by rw [unhide HE2, unhide HA]), unhide HB⟩
  · have hroot' : (decide (root = 0) || hasv u root 1) = false := by simpa using hroot
    have hR : R = false := by rw [unhide HE, hroot']; rfl
    subst hR
    have h0 : root ≠ 0 ∧ hasv u root 1 = false := by
      constructor
      · intro e; simp [e] at hroot'
      · simp only [Bool.or_eq_false_iff] at hroot'; exact hroot'.2
    have H1 := hide (unhide HH w (Below.refl _ _) root hr)
    rw [h0.2] at H1
    have h0' : (root != 0) = true := by rw [bne_iff_ne]; exact h0.1
    clear h0 hroot hroot' HE
    go_enter Tryz.func129, Tryz.ntmps129
    go_wp2_with (go_at_call 132; refine (unhide H1).mono ?_; rintro e w2 ⟨rfl, hw⟩; rw [hw]; clear hw w2)
    go_ret
    exact ⟨rfl, Below.refl _ _⟩
end Go.Proofs.YtjopnhhdemfniaaGreatDoor
namespace Go.Proofs.YtjopnhhdemfniaaGreatDoor
open Go.RowKit
set_option maxHeartbeats 8000000
set_option maxRecDepth 8000
variable {P D : Nat} {d : Ds} {p : Pr} {vw vl vu : Value} {w w' : World}
/-- A page came out; of the old blocks none but F turned. -/
def PgTo (F : Nat → Prop) (x : Pg) (er : Int) (w : World) (e : Ending) (w' : World) : Prop := ∃ q cap, e = .returned (.tuple #[pga x q cap, I er]) ∧ w'.ownsRow 0 3 1 (.slice q x.links.length cap) x.links.length (x.links.map fun z => I z) ∧ (∀ k, (Value.slice q x.links.length cap).ownBlock = some k → w.heap.size ≤ k) ∧ Only F w w'
theorem pgc_no : pgc noPg none 0 = #[I 0, I 0, I 0, .slice none 0 0, S []] := rfl
theorem ask_alive (h : askv d p = 0) : d.dead = false ∧ p.doubt = false := by
  unfold askv at h
  cases hd : d.dead <;> cases hp : p.doubt <;> simp_all
theorem readP_any (h : PD P D d p vw vl vu w) (n : Int) (hn : n ≤ 9223372036854775807) : Calls Tryz.prog 53 #[ptr P, I n] w fun e w' => PgTo (fun k => k = P) (rdp d p n).1 (rdp d p n).2 w e w' ∧ PD P D d (p.ask d) vw vl vu w' := by
  have ZB := (Below.refl w.heap.size w).alloc (Nat.le_refl _) (.cells #[I 0, I 0, I 0, .slice none 0 0, S []] 24)
  have Z0 := heap_alloc_new w (.cells #[I 0, I 0, I 0, .slice none 0 0, S []] 24)
  have hA := h.below ZB
  have hzl := lt_of_row Z0
  have hP := h.lt
  have H0 := hide (ask_any hA)
  have hfew := h.few
  have HN := hide (show rdp d p n = if askv d p ≠ 0 then (noPg, askv d p) else if hasv p.use n 255 = false then (noPg, 93) else prp (readS d n) from rfl)
  have huse : (p.ask d).use = p.use := rfl
  have hlen := h.len
  have hpd := fun q : askv d p = 0 => ask_alive q
  rw [← huse] at HN hfew hlen
  have HLN := hide hlen
  have HOld := hide h.old
  clear hlen
  generalize p.ask d = pa at *
  have HZB := hide ZB
  have HZ0 := hide Z0
  clear h hA ZB Z0 huse
  by_cases ha : askv d p = 0
  · have HDead := hide (hpd ha).1
    rw [ha] at H0 HN
    have e := unhide HN
    rw [if_neg (by simp)] at e
    clear hpd ha HN
    cases hh : hasv pa.use n 255
    · rw [hh, if_pos rfl] at e
      rw [e]
      clear e
      go_enter Tryz.func53, Tryz.ntmps53
      go_wp2_with fail
      refine (unhide H0).mono ?_
      rintro e w1 ⟨rfl, h1, o1⟩
      generalize w.alloc (.cells #[I 0, I 0, I 0, .slice none 0 0, S []] 24) = W0 at *
      obtain ⟨c0, c1, c2, c3, c4, c5, c6, c7⟩ := h1.c
      have hlt := h1.lt
      have H1 := hide (has_any h1.us n 255 hn)
      rw [hh] at H1
      unfold B at H1
      change Hid (Calls Tryz.prog 132 #[vu, I n, .int .u8 255] w1 _) at H1
      obtain ⟨q, cap, hv⟩ := owns_form h1.us
      rw [hv] at c5 H1
      have hZ1 := (o1.block _ hzl (by omega)).trans (unhide HZ0)
      have HD1 := hide h1
      have HO1 := hide ((Only.of_below (P := fun k => k = P) (unhide HZB)).trans o1 (fun _ _ q => q))
      have HZ1 := hide hZ1
      clear h1 o1 hZ1 c0 c1 c2 c3 c4 c6 c7 hh hv
      generalize pa.use.length = ln at *
      go_wp2_with fail
      refine (unhide H1).mono ?_
      rintro e w2 ⟨rfl, hw2⟩
      rw [hw2]
      clear hw2 w2
      go_wp2_with (refine wp_st24 rfl (.tmp 4) (.tmp 22) rfl w.heap.size (by rfl) 0 0 0 none 0 0 [] (by rfl) _ rfl (unhide HZ1) ?_)
      have h5 := setRow_heap _ _ _ #[I 0, I 0, I 0, .slice none 0 0, S []] 24 _ (unhide HZ1)
      have oF := setRow_only' w1 w.heap.size #[I 0, I 0, I 0, .slice none 0 0, S []]
      rw [← pgc_no] at h5 oF ⊢
      refine outP (t := 4) (q := 5) (x := noPg) rfl (by rfl) (by rfl) (by rfl) h5 ⟨⟨none, 0, rfl, owns_nil _ _ _, (fun _ q => nomatch q), (unhide HO1).trans oF (fun k hk q => by omega)⟩, ?_⟩
      exact (unhide HD1).only oF (fun k hk q => by have := unhide HOld k hk; omega)
    · rw [hh, if_neg (by simp)] at e
      rw [e]
      clear e
      have hin := hasv_in hh
      have hrv : reachv d n = 0 := by
        have hl := unhide HLN
        unfold reachv
        rw [if_neg (by rw [unhide HDead]; simp), if_neg (by omega), if_neg (by omega)]
      have HPP := hide (fun W => parsePage_any (readS d n) W)
      generalize prp (readS d n) = pp at *
      obtain ⟨x, er⟩ := pp
      simp only at HPP ⊢
      have HRV := hide hrv
      clear hin hrv
      go_enter Tryz.func53, Tryz.ntmps53
      go_wp2_with fail
      refine (unhide H0).mono ?_
      rintro e w1 ⟨rfl, h1, o1⟩
      generalize w.alloc (.cells #[I 0, I 0, I 0, .slice none 0 0, S []] 24) = W0 at *
      obtain ⟨c0, c1, c2, c3, c4, c5, c6, c7⟩ := h1.c
      have hlt := h1.lt
      have H1 := hide (has_any h1.us n 255 hn)
      rw [hh] at H1
      unfold B at H1
      change Hid (Calls Tryz.prog 132 #[vu, I n, .int .u8 255] w1 _) at H1
      obtain ⟨q, cap, hv⟩ := owns_form h1.us
      rw [hv] at c5 H1
      have hZ1 := (o1.block _ hzl (by omega)).trans (unhide HZ0)
      have HD1 := hide h1
      have HO1 := hide ((Only.of_below (P := fun k => k = P) (unhide HZB)).trans o1 (fun _ _ q => q))
      have HZ1 := hide hZ1
      have HRd := hide (read_any h1.dat h1.ok n)
      rw [unhide HRV] at HRd
      clear h1 o1 hZ1 c1 c2 c3 c4 c6 c7 hh hv
      generalize pa.use.length = ln at *
      generalize readS d n = s at *
      go_wp2_with fail
      refine (unhide H1).mono ?_
      rintro e w2 ⟨rfl, hw2⟩
      rw [hw2]
      clear hw2 w2
      go_wp2_with fail
      refine (unhide HRd).mono ?_
      rintro e w2 ⟨rfl, b2⟩
      have B2 := hide b2
      clear b2
      go_wp2_with fail
      refine (unhide HPP _).mono ?_
      rintro e w3 ⟨q3, cap3, rfl, r3, n3, b3⟩
      have B3 := hide ((unhide B2).trans (b3.mono (unhide B2).size))
      have HZ3 := hide (((unhide B3).block _ (lt_of_row (unhide HZ1))).trans (unhide HZ1))
      have R3 := hide r3
      have N3 := hide n3
      have hs12 : w1.heap.size ≤ w2.heap.size := (unhide B2).size
      have hzl1 : w.heap.size < w1.heap.size := lt_of_row (unhide HZ1)
      obtain ⟨xk, xn, xb, xl, xs⟩ := x
      unfold pga
      simp only at R3 N3 ⊢
      clear b3 r3 n3
      generalize hxl : xl.length = m at *
      have HXL := hide hxl
      clear hxl
      go_wp2_with (refine wp_st24 rfl (.tmp 4) (.tmp 38) rfl w.heap.size (by rfl) xk xn xb q3 m cap3 xs (by rfl) _ rfl (unhide HZ3) ?_)
      have h5 := setRow_heap _ _ _ #[I xk, I xn, I xb, .slice q3 m cap3, S xs] 24 _ (unhide HZ3)
      have oF := setRow_only' w3 w.heap.size #[I xk, I xn, I xb, .slice q3 m cap3, S xs]
      have hxl := unhide HXL
      have e5 : #[I xk, I xn, I xb, .slice q3 m cap3, S xs] = pgc ⟨xk, xn, xb, xl, xs⟩ q3 cap3 := by unfold pgc; rw [hxl]
      rw [e5] at h5 oF ⊢
      refine outP (t := 4) (q := 5) (x := ⟨xk, xn, xb, xl, xs⟩) (r := q3) (cap := cap3) rfl (by rfl) (by rfl) (by rfl) h5 ⟨⟨q3, cap3, rfl, ?_, ?_, ?_⟩, ?_⟩
      · simp only
        rw [hxl]
        exact owns_only (unhide R3) oF (fun i hi e => by have := unhide N3 i hi; omega)
      · simp only
        rw [hxl]
        intro k hk
        have := unhide N3 k hk
        omega
      · exact ((unhide HO1).trans (Only.of_below (P := fun k => k = P) (unhide B3)) (fun _ _ q => q)).trans oF (fun k hk q => by omega)
      · exact ((unhide HD1).below (unhide B3)).only oF (fun k hk q => by have := unhide HOld k hk; omega)
  · have e := unhide HN
    rw [if_pos ha] at e
    rw [e]
    generalize askv d p = av at *
    clear e HN hpd
    go_enter Tryz.func53, Tryz.ntmps53
    go_wp2_with fail
    refine (unhide H0).mono ?_
    rintro e w1 ⟨rfl, h1, o1⟩
    generalize w.alloc (.cells #[I 0, I 0, I 0, .slice none 0 0, S []] 24) = W0 at *
    have HZ1 := hide ((o1.block _ hzl (by omega)).trans (unhide HZ0))
    have HD1 := hide h1
    have HO1 := hide ((Only.of_below (P := fun k => k = P) (unhide HZB)).trans o1 (fun _ _ q => q))
    clear h1 o1
    go_wp2_with (refine wp_st24 rfl (.tmp 4) (.tmp 13) rfl w.heap.size (by rfl) 0 0 0 none 0 0 [] (by rfl) _ rfl (unhide HZ1) ?_)
    have h5 := setRow_heap _ _ _ #[I 0, I 0, I 0, .slice none 0 0, S []] 24 _ (unhide HZ1)
    have oF := setRow_only' w1 w.heap.size #[I 0, I 0, I 0, .slice none 0 0, S []]
    rw [← pgc_no] at h5 oF ⊢
    refine outP (t := 4) (q := 5) (x := noPg) rfl (by rfl) (by rfl) (by rfl) h5 ⟨⟨none, 0, rfl, owns_nil _ _ _, (fun _ q => nomatch q), (unhide HO1).trans oF (fun k hk q => by omega)⟩, ?_⟩
    exact (unhide HD1).only oF (fun k hk q => by have := unhide HOld k hk; omega)
end Go.Proofs.YtjopnhhdemfniaaGreatDoor
namespace Go.Proofs.YtjopnhhdemfniaaGreatDoor
open Go.RowKit
set_option maxHeartbeats 8000000
set_option maxRecDepth 8000
theorem made_zero (n : Nat) : (madeCells (Value.int .u8 0).cells (n * 1)).toList = (List.replicate n (0 : UInt8)).map B := by
  rw [Nat.mul_one, made1 _ rfl n]
  simp [B]
/-- What a head without a root reaches. -/
theorem reach0_any {D : Nat} (g b : Int) (n : Bs) (w : World) (m : Nat) (hb : b = (m : Int)) (hm : m ≤ 4096) :
    Calls Tryz.prog 109 #[ptr D, .agg #[I g, I 0, I b, S n]] w fun e w' => ∃ vu, e = .returned (.tuple #[vu, .bool true]) ∧ Uls w' vu (List.replicate m 0) ∧ (∀ k, vu.ownBlock = some k → w.heap.size ≤ k) ∧ Below w.heap.size w w' := by
  subst hb
  have HB := hide ((Below.refl w.heap.size w).alloc (Nat.le_refl _) (.cells #[I g, I 0, I m, S n] 123))
  have HG := hide (heap_alloc_new w (.cells #[I g, I 0, I m, S n] 123))
  have hm0 : (0 : Int) ≤ (m : Int) := by omega
  go_enter Tryz.func109, Tryz.ntmps109
  go_wp2_with (refine make_own 168 5 _ 1 1 Tryz.underlying168 info5 rfl (.tmp 12) (.tmp 12) rfl _ _ m (by rfl) (by rfl) rfl rfl (by omega) (by omega) ?_; intro w1 ho1 b1 l1; have c1 := box4 (unhide HG) b1 (lt_of_row (unhide HG)); obtain ⟨d0, d1, d2, d3⟩ := c1; have HO := hide ho1; have HB1 := hide ((unhide HB).trans (b1.mono (unhide HB).size)); clear ho1 b1)
  go_loopw [7] (fun V wr => V = .slice none 0 0 ∧ wr = w1) (fun _ _ => 0)
  case atStart => exact ⟨rfl, rfl⟩
  case round =>
    obtain ⟨rfl, hwr⟩ := hrel
    subst hwr
    go_wp2
    go_ret2
    refine ⟨_, rfl, ?_, fun k hk => ?_, unhide HB1⟩
    · have := unhide HO
      rw [show (w.alloc (.cells #[I g, I 0, I m, S n] 123)).heap.size = w.heap.size + 1 by simp] at this
      unfold Uls
      rw [List.length_replicate, ← made_zero]
      exact this
    · cases hk
      show w.heap.size ≤ w.heap.size + 1
      omega
theorem hon_blocks (d : Ds) (b : Nat) (h : (hon d b).2 = true) : (hon d b).1.blocks = (d.last.length : Int) := by
  unfold hon at *
  split at h
  · rename_i q
    rw [if_pos q]
    simp only [hok, Bool.and_eq_true, beq_iff_eq] at h
    exact h.1.2
  · cases h
theorem lst_blocks (d : Ds) (k : Nat) : lst d k = noHd ∨ (lst d k).blocks = (d.last.length : Int) := by
  induction k with
  | zero => exact .inl rfl
  | succ k ih =>
    unfold lst
    split
    · rename_i h
      exact .inr (hon_blocks d k h.1)
    · exact ih
theorem hct_blocks (d : Ds) (h : (hct d).2 = true) : (hct d).1.blocks = (d.last.length : Int) := by
  rcases lst_blocks d 2 with e | e
  · unfold hct at h
    rw [e] at h
    simp [noHd] at h
  · exact e
/-- A store without a root is mounted. -/
theorem mount0_any {D : Nat} {d : Ds} {vw vl : Value} {w : World} (h : DAt D d vw vl w) (ho : Ok d) (hd : d.dead = false) (hc : (hct d).2 = true) (hr : (hct d).1.root = 0) :
    Calls Tryz.prog 39 #[ptr D] w fun e w' => ∃ P vu, e = .returned (.tuple #[ptr P, I 0]) ∧ PD P D d ⟨(hct d).1, List.replicate d.last.length 0, 0, false⟩ vw vl vu w' ∧ w.heap.size ≤ P ∧ (∀ k, vu.ownBlock = some k → w.heap.size ≤ k) ∧ Below w.heap.size w w' := by
  have H0 := hide (dead_any h)
  rw [hd] at H0
  have H1 := hide (headThatCounts_any h ho)
  have hb := hct_blocks d hc
  rw [hc] at H1
  have HD := hide h
  have HO := hide ho
  have hlen := ho.len
  generalize (hct d).1 = x at *
  obtain ⟨g, r, b, nt⟩ := x
  unfold hda at H1
  simp only at H1 hb hr
  subst hr hb
  have HR := hide (fun W => reach0_any (D := D) g (d.last.length : Int) nt W d.last.length rfl hlen.2)
  generalize hln : d.last.length = ln at *
  have HLN := hide hln
  clear h ho hd hc hln
  go_enter Tryz.func39, Tryz.ntmps39
  go_wp2_with fail
  refine (unhide H0).mono ?_
  rintro e w0 ⟨rfl, hw0⟩
  rw [hw0]
  clear hw0 w0
  go_wp2_with fail
  refine (unhide H1).mono ?_
  rintro e w1 ⟨rfl, b1⟩
  have B1 := hide (b1.alloc b1.size (.cells #[I g, I 0, I ln, S nt] 123))
  have HG := hide (heap_alloc_new w1 (.cells #[I g, I 0, I ln, S nt] 123))
  clear b1
  go_wp2_with fail
  refine (unhide HR _).mono ?_
  rintro e w2 ⟨vu, rfl, u2, n2, b2⟩
  obtain ⟨c0, c1, c2, c3⟩ := box4 (unhide HG) b2 (lt_of_row (unhide HG))
  obtain ⟨q, cap, rfl⟩ := owns_form u2
  have B2 := hide ((unhide B1).trans (b2.mono (unhide B1).size))
  have U2 := hide u2
  have N2 := hide (fun k hk => Nat.le_trans (unhide B1).size (n2 k hk))
  clear u2 n2 b2
  generalize hrl : (List.replicate ln (0 : UInt8)).length = rl at *
  clear hrl
  go_wp2
  go_ret2
  have hb3 := (unhide B2).alloc (unhide B2).size (.cells #[ptr D, I g, I 0, I ln, S nt, .slice q rl cap, .int .u8 0, .bool false] 172)
  refine ⟨w2.heap.size, .slice q rl cap, rfl, ⟨(unhide HD).below hb3, unhide HO, heap_alloc_new _ _, owns_alloc (unhide U2) _, by simp; exact (unhide HLN).symm⟩, (unhide B2).size, unhide N2, hb3⟩
end Go.Proofs.YtjopnhhdemfniaaGreatDoor
namespace Go.Proofs.YtjopnhhdemfniaaGreatDoor
open Go.RowKit
set_option maxHeartbeats 8000000
set_option maxRecDepth 8000
theorem ints_any (a a2 : Option Addr) (n n2 cap cap2 : Nat) (l l2 : List Int) (w : World) (hp : Ins w a n l) (hp2 : Ins w a2 n2 l2) (hn : n ≤ 1000000000000) (hn2 : n2 ≤ 1000000000000) :
    Calls Tryz.prog 67 #[.slice a n cap, .slice a2 n2 cap2] w fun e w' => e = .returned (.bool (decide (l = l2))) ∧ Below w.heap.size w w' := by
  have hN := hp.1
  have hN2 := hp2.1
  subst hN hN2
  have HP := hide hp
  have HP2 := hide hp2
  clear hp hp2
  have HE := hide (rfl : decide (l = l2) = decide (l = l2))
  by_cases hl : l.length = l2.length
  · have HAll := hide (eqk_all l l2 hl)
    have HBad := hide (eqk_bad l l2)
    generalize decide (l = l2) = R at *
    have hli : (l.length : Int) = (l2.length : Int) := by omega
    have hl2 : l2.length = l.length := hl.symm
    rw [hl2]
    clear hl hli
    have HL2 := hide hl2
    clear hl2
    go_enter Tryz.func67, Tryz.ntmps67
    go_wp2
    go_loopw [5] (fun i wr => ∃ k : Nat, k ≤ l.length ∧ i = .int .i64 k ∧ eqk l l2 k = true ∧ Below w.heap.size w wr) (fun i _ => l.length - (Go.RowKit.intOf i).toNat)
    case atStart => exact ⟨0, by omega, rfl, rfl, Below.refl _ _⟩
    case round =>
      obtain ⟨k, hk, rfl, ha, hb⟩ := hrel
      by_cases hlt : k < l.length
      · have hlt' : (k : Int) < (l.length : Int) := by omega
        obtain ⟨p, o, rfl, hpl, hc0⟩ := ((unhide HP).below hb).at hlt
        obtain ⟨p2, o2, rfl, hpl2, hc2⟩ := ((unhide HP2).below hb).at (show k < l2.length by have := unhide HL2; omega)
        have HN := hide (eqk_next l l2 k)
        have HW := hide (unhide HBad k)
        have HA := hide ha
        have HB := hide hb
        clear ha hb
        generalize l.getD k 0 = x at *
        generalize l2.getD k 0 = y at *
        by_cases hxy : x = y
        · subst hxy
          have HA2 := hide (show eqk l l2 (k + 1) = true by rw [unhide HN, unhide HA]; simp)
          go_wp2
          go_region
          all_goals go_wp2
          all_goals (
            go_round
            case measure => simp [Go.RowKit.intOf]; omega
            case rel => exact ⟨k + 1, by omega, by simp, unhide HA2, (unhide HB).drew⟩)
        · have hxy' : (x == y) = false := by rw [beq_eq_false_iff_ne]; exact hxy
          have HW2 := hide (unhide HW hxy)
          go_wp2
          go_region
          all_goals go_wp2
          all_goals (
            go_ret
            exact ⟨ret_bool (unhide HW2).symm, (unhide HB).drew⟩)
      · have hlt' : ¬ (k : Int) < (l.length : Int) := by omega
        obtain rfl : k = l.length := by omega
        have HA := hide (unhide HAll ha)
        have HB := hide hb
        clear ha hb
        go_wp2
        go_ret
        exact ⟨ret_bool (unhide HA).symm, unhide HB⟩
  · have hR : decide (l = l2) = false := by
      rw [decide_eq_false_iff_not]
      intro q
      exact hl (by rw [q])
    rw [hR]
    have hli : ((l.length : Int) == (l2.length : Int)) = false := by rw [beq_eq_false_iff_ne]; omega
    generalize l.length = m at *
    generalize l2.length = m2 at *
    go_enter Tryz.func67, Tryz.ntmps67
    go_wp2
    go_ret
    exact ⟨rfl, Below.refl _ _⟩
end Go.Proofs.YtjopnhhdemfniaaGreatDoor
namespace Go.Proofs.YtjopnhhdemfniaaGreatDoor
open Go.RowKit
set_option maxHeartbeats 8000000
set_option maxRecDepth 8000
theorem size_alloc (w : World) (o : Obj) : (w.alloc o).heap.size = w.heap.size + 1 := by unfold World.alloc; exact Array.size_push _
/-- Are two pages the same? -/
def smp (x y : Pg) : Bool := decide (x.links = y.links) && (x.kind == y.kind) && (x.number == y.number) && (x.birth == y.birth) && (x.body == y.body)
theorem samePage_any (x y : Pg) (a a2 : Option Addr) (cap cap2 : Nat) (w : World) (hp : Ins w a x.links.length x.links) (hp2 : Ins w a2 y.links.length y.links) (hn : x.links.length ≤ 1000000000000) (hn2 : y.links.length ≤ 1000000000000) :
    Calls Tryz.prog 64 #[pga x a cap, pga y a2 cap2] w fun e w' => e = .returned (.bool (smp x y)) ∧ Below w.heap.size w w' := by
  have b1 := (Below.refl w.heap.size w).alloc (Nat.le_refl _) (.cells (pgc x a cap) 24)
  have b2 := b1.alloc b1.size (.cells (pgc y a2 cap2) 24)
  have g1 := heap_alloc_new w (.cells (pgc x a cap) 24)
  have g2 := heap_alloc_new (w.alloc (.cells (pgc x a cap) 24)) (.cells (pgc y a2 cap2) 24)
  have s1 : w.heap.size < (w.alloc (.cells (pgc x a cap) 24)).heap.size := lt_of_row g1
  have b12 := (Below.refl (w.alloc (.cells (pgc x a cap) 24)).heap.size (w.alloc (.cells (pgc x a cap) 24))).alloc (Nat.le_refl _) (.cells (pgc y a2 cap2) 24)
  have g1' := (b12.block _ s1).trans g1
  have s2 := lt_of_row g2
  have H := hide (ints_any a a2 x.links.length y.links.length cap cap2 x.links y.links _ (hp.below b2) (hp2.below b2) hn hn2)
  have HB2 := hide b2
  have HC := hide (fun W (q : Below ((w.alloc (.cells (pgc x a cap) 24)).alloc (.cells (pgc y a2 cap2) 24)).heap.size ((w.alloc (.cells (pgc x a cap) 24)).alloc (.cells (pgc y a2 cap2) 24)) W) => And.intro (box5 g1' q (lt_of_row g1')) (box5 g2 q s2))
  have hv : smp x y = (decide (x.links = y.links) && (x.kind == y.kind) && (x.number == y.number) && (x.birth == y.birth) && (x.body == y.body)) := rfl
  generalize smp x y = sv at *
  clear hp hp2 b1 b2 g1 g2 g1' b12 hn hn2
  obtain ⟨⟨u0, u1, u2, u3, u4⟩, v0, v1, v2, v3, v4⟩ := unhide HC _ (Below.refl _ _)
  obtain ⟨xk, xn, xb, xl, xs⟩ := x
  obtain ⟨yk, yn, yb, yl, ys⟩ := y
  unfold pga pgc at *
  simp only at H HB2 HC hv u0 u1 u2 u3 u4 v0 v1 v2 v3 v4 s1 s2 ⊢
  generalize decide (xl = yl) = lv at *
  generalize List.length xl = m1 at *
  generalize List.length yl = m2 at *
  have HV := hide hv
  clear hv
  rcases Bool.eq_false_or_eq_true lv with e0 | e0
  rotate_left
  · subst e0
    go_enter Tryz.func64, Tryz.ntmps64
    go_wp2_with fail
    refine (unhide H).mono ?_
    rintro e w1 ⟨rfl, b1⟩
    obtain ⟨⟨k0, k1, k2, k3, k4⟩, l0, l1, l2, l3, l4⟩ := unhide HC _ b1
    have HE := hide ((unhide HB2).trans (b1.mono (unhide HB2).size))
    clear b1 u0 u1 u2 u3 u4 v0 v1 v2 v3 v4
    rw [size_alloc] at l0 l1 l2 l3 l4 s2
    clear s1
    go_wp2
    go_ret
    exact ⟨ret_bool (by rw [unhide HV]; simp), unhide HE⟩
  · subst e0
    go_enter Tryz.func64, Tryz.ntmps64
    go_wp2_with fail
    refine (unhide H).mono ?_
    rintro e w1 ⟨rfl, b1⟩
    obtain ⟨⟨k0, k1, k2, k3, k4⟩, l0, l1, l2, l3, l4⟩ := unhide HC _ b1
    have HE := hide ((unhide HB2).trans (b1.mono (unhide HB2).size))
    clear b1 u0 u1 u2 u3 u4 v0 v1 v2 v3 v4
    rw [size_alloc] at l0 l1 l2 l3 l4 s2
    clear s1
    cases e1 : (xk == yk)
    · rw [e1] at HV
      go_wp2
      go_ret
      exact ⟨ret_bool (by rw [unhide HV]; simp), unhide HE⟩
    · rw [e1] at HV
      cases e2 : (xn == yn)
      · rw [e2] at HV
        go_wp2
        go_ret
        exact ⟨ret_bool (by rw [unhide HV]; simp), unhide HE⟩
      · rw [e2] at HV
        cases e3 : (xb == yb)
        · rw [e3] at HV
          go_wp2
          go_ret
          exact ⟨ret_bool (by rw [unhide HV]; simp), unhide HE⟩
        · rw [e3] at HV
          go_wp2
          go_ret
          refine ⟨ret_bool ?_, unhide HE⟩
          rw [unhide HV]
          simp
end Go.Proofs.YtjopnhhdemfniaaGreatDoor
namespace Go.Proofs.YtjopnhhdemfniaaGreatDoor
open Go.RowKit
set_option maxHeartbeats 8000000
set_option maxRecDepth 8000
variable {P D : Nat} {d : Ds} {p : Pr} {vw vl vu : Value} {w w' : World}
theorem sel_len (u : Us) (pr : UInt8 → Bool) : (sel u pr).length ≤ u.length := selk_len u pr u.length
theorem reached_any (h : PD P D d p vw vl vu w) (hb : p.h.blocks = (d.last.length : Int)) : Calls Tryz.prog 110 #[ptr P] w fun e w' => ∃ V, e = .returned V ∧ InsOut (sel p.use rcb) w V w' ∧ Below w.heap.size w w' := by
  obtain ⟨c0, c1, c2, c3, c4, c5, c6, c7⟩ := h.c
  have hlt := h.lt
  have hd := h.below (Below.refl _ _).drew
  have H0 := hide (sizeP_any hd)
  have H1 := hide (leastReached_any hd.us d.last.length (by have := h.few; omega))
  have htk : (sel p.use rcb).take d.last.length = sel p.use rcb := List.take_of_length_le (by have := sel_len p.use rcb; have := h.len; omega)
  rw [htk] at H1
  rw [hb] at H0
  obtain ⟨q, cap, hv⟩ := owns_form h.us
  rw [hv] at c5 H1
  clear h hd hb htk hv c0 c1 c2 c3 c4 c6 c7
  generalize p.use.length = ul at *
  generalize d.last.length = dl at *
  go_enter Tryz.func110, Tryz.ntmps110
  go_wp2
  first
    | go_region_with (first
        | (go_at_call 111; refine (unhide H0).mono ?_; rintro e w1 ⟨rfl, hw⟩; rw [hw]; clear hw w1)
        | (go_at_call 119; refine (unhide H1).mono ?_; rintro e w2 ⟨V, rfl, r2, n2, b2⟩; have HR := hide (And.intro r2 n2); have HB := hide b2; clear r2 n2 b2))
    | fail
  all_goals go_wp2
  all_goals (
    go_ret
    exact ⟨_, rfl, unhide HR, (Below.refl _ _).drew.trans (unhide HB)⟩)
end Go.Proofs.YtjopnhhdemfniaaGreatDoor
