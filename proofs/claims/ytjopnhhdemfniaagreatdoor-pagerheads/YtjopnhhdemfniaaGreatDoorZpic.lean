import Derived.Test.YtjopnhhdemfniaaGreatDoorZpgf
import Derived.Test.YtjopnhhdemfniaaGreatDoorZphe
namespace Go.Proofs.YtjopnhhdemfniaaGreatDoor
open Go.RowKit
set_option maxHeartbeats 8000000
set_option maxRecDepth 8000
/-- What a pager keeps. -/
structure Pr where
  h : Hd
  use : Us
  pins : UInt8
  doubt : Bool
def pcs (D : Nat) (p : Pr) (vu : Value) : Array Value := #[ptr D, I p.h.gen, I p.h.root, I p.h.blocks, S p.h.note, vu, .int .u8 (p.pins.toNat : Int), .bool p.doubt]
/-- A pager and its disk in memory. -/
structure PD (P D : Nat) (d : Ds) (p : Pr) (vw vl vu : Value) (w : World) : Prop where
  dat : DAt D d vw vl w
  ok : Ok d
  blk : w.heap[P]? = some (.cells (pcs D p vu) 172 (0, 0))
  us : Uls w vu p.use
  len : p.use.length = d.last.length
/-- Its blocks. -/
def POf (P D : Nat) (vw vl vu : Value) (k : Nat) : Prop := k = P ∨ vu.ownBlock = some k ∨ Of D vw vl k
variable {P D : Nat} {d : Ds} {p : Pr} {vw vl vu : Value} {w w' : World}
theorem PD.lt (h : PD P D d p vw vl vu w) : P < w.heap.size := lt_of_row h.blk
theorem PD.c (h : PD P D d p vw vl vu w) : w.cell? ⟨P, 0, none⟩ = some (ptr D) ∧ w.cell? ⟨P, 1, none⟩ = some (I p.h.gen) ∧ w.cell? ⟨P, 2, none⟩ = some (I p.h.root) ∧ w.cell? ⟨P, 3, none⟩ = some (I p.h.blocks) ∧ w.cell? ⟨P, 4, none⟩ = some (S p.h.note) ∧ w.cell? ⟨P, 5, none⟩ = some vu ∧ w.cell? ⟨P, 6, none⟩ = some (.int .u8 (p.pins.toNat : Int)) ∧ w.cell? ⟨P, 7, none⟩ = some (.bool p.doubt) := by
  have := fun j => cell_of_row w P j _ 172 (0, 0) h.blk
  refine ⟨?_, ?_, ?_, ?_, ?_, ?_, ?_, ?_⟩ <;> (rw [this]; rfl)
theorem PD.kindD (h : PD P D d p vw vl vu w) (k : Nat) (hk : Of D vw vl k) : ∃ cs t, w.heap[k]? = some (.cells cs t (0, 0)) ∧ (t = 153 ∨ t = 164 ∨ t = 9) := by
  rcases hk with rfl | hk | hk
  · exact ⟨_, _, h.dat.blk, .inl rfl⟩
  · obtain ⟨cs, q⟩ := owns_lt h.dat.ws k hk
    exact ⟨_, _, q, .inr (.inl rfl)⟩
  · obtain ⟨cs, q⟩ := owns_lt h.dat.ls k hk
    exact ⟨_, _, q, .inr (.inr rfl)⟩
theorem PD.neP (h : PD P D d p vw vl vu w) : ∀ k, Of D vw vl k → k ≠ P := by
  intro k hk e
  obtain ⟨cs, t, q, ht⟩ := h.kindD k hk
  rw [e, h.blk] at q
  cases q
  rcases ht with h | h | h <;> exact absurd h (by decide)
theorem PD.neU (h : PD P D d p vw vl vu w) : ∀ k, Of D vw vl k → vu.ownBlock ≠ some k := by
  intro k hk e
  obtain ⟨cs, t, q, ht⟩ := h.kindD k hk
  obtain ⟨cs2, q2⟩ := owns_lt h.us k e
  rw [q2] at q
  cases q
  rcases ht with h | h | h <;> exact absurd h (by decide)
theorem PD.uP (h : PD P D d p vw vl vu w) : vu.ownBlock ≠ some P := by
  intro e
  obtain ⟨cs2, q2⟩ := owns_lt h.us P e
  rw [h.blk] at q2
  cases q2
theorem PD.old (h : PD P D d p vw vl vu w) : ∀ k, POf P D vw vl vu k → k < w.heap.size := by
  rintro k (rfl | hk | hk)
  · exact h.lt
  · exact owns_blk h.us k hk
  · exact h.dat.old k hk
theorem PD.only {F : Nat → Prop} (h : PD P D d p vw vl vu w) (o : Only F w w') (hp : ∀ k, POf P D vw vl vu k → ¬ F k) : PD P D d p vw vl vu w' :=
  ⟨h.dat.only o (fun k hk => hp k (.inr (.inr hk))), h.ok, (o.block P h.lt (hp P (.inl rfl))).trans h.blk, owns_only h.us o (fun k hk => hp k (.inr (.inl hk))), h.len⟩
theorem PD.below (h : PD P D d p vw vl vu w) (b : Below w.heap.size w w') : PD P D d p vw vl vu w' := h.only (Only.of_below (P := fun _ => False) b) (fun _ _ q => q)
/-- A cell of its own block is written. -/
theorem PD.set {p' : Pr} {vu' : Value} (h : PD P D d p vw vl vu w) (j : Nat) (x : Value) (hc : (pcs D p vu).setIfInBounds j x = pcs D p' vu') (hu : Uls w vu' p'.use) (hl : p'.use.length = d.last.length) : PD P D d p' vw vl vu' (w.setCell ⟨P, j, none⟩ x) := by
  have o := Only.setCell w ⟨P, j, none⟩ x
  refine ⟨h.dat.only o (fun k hk e => h.neP k hk e), h.ok, ?_, owns_only hu o (fun k hk e => ?_), hl⟩
  · rw [heap_setCell_same w P j _ 172 x h.blk, hc]
  · obtain ⟨cs, q⟩ := owns_lt hu k hk
    rw [show k = P from e, h.blk] at q
    cases q
/-- The disk has turned. -/
theorem PD.disk {d' : Ds} (h : PD P D d p vw vl vu w) (t : DTo D vw vl d' w w') (ho : Ok d') (hl : d'.last.length = d.last.length) : ∃ vw', PD P D d' p vw' vl vu w' ∧ Only (POf P D vw vl vu) w w' ∧ ∀ k, vw'.ownBlock = some k → vw.ownBlock = some k ∨ w.heap.size ≤ k := by
  obtain ⟨vw', a, o, n⟩ := t
  refine ⟨vw', ⟨a, ho, (o.block P h.lt (fun q => h.neP P q rfl)).trans h.blk, owns_only h.us o (fun k hk q => h.neU k q hk), h.len.trans hl.symm⟩, o.mono (fun k _ q => .inr (.inr q)), n⟩
def askv (d : Ds) (p : Pr) : Int := if (p.doubt || d.dead) = true then 2 else 0
def Pr.ask (p : Pr) (d : Ds) : Pr := { p with doubt := p.doubt || d.dead }
theorem ask_any (h : PD P D d p vw vl vu w) : Calls Tryz.prog 114 #[ptr P] w fun e w' => e = .returned (I (askv d p)) ∧ PD P D d (p.ask d) vw vl vu w' ∧ Only (fun k => k = P) w w' := by
  obtain ⟨c0, c1, c2, c3, c4, c5, c6, c7⟩ := h.c
  have H0 := hide (dead_any h.dat)
  have f7 := frz h.blk 7
  have hlt := h.lt
  have hset := h.set (p' := p.ask d) (vu' := vu) 7 (.bool (p.doubt || d.dead)) rfl h.us h.len
  have HS := hide hset
  have HD := hide h
  have HA := hide (show askv d p = if (p.doubt || d.dead) = true then 2 else 0 from rfl)
  have HP := hide (show p.ask d = { p with doubt := p.doubt || d.dead } from rfl)
  generalize p.ask d = pa at *
  generalize askv d p = av at *
  clear hset h
  obtain ⟨ph, us, pins, db⟩ := p
  simp only at c7 c6 c1 c2 c3 c4 HS HA HP
  cases hd : d.dead
  · rw [hd] at H0 HA HP HS
    cases db
    · have e1 : pa = ⟨ph, us, pins, false⟩ := unhide HP
      have e2 : av = 0 := unhide HA
      subst e1 e2
      go_enter Tryz.func114, Tryz.ntmps114
      go_wp2_with fail
      refine (unhide H0).mono ?_
      rintro e w0 ⟨rfl, hw0⟩
      rw [hw0]
      clear hw0 w0
      go_wp2
      go_ret
      exact ⟨rfl, unhide HD, Only.refl _ _⟩
    · have e1 : pa = ⟨ph, us, pins, true⟩ := unhide HP
      have e2 : av = 2 := unhide HA
      subst e1 e2
      go_enter Tryz.func114, Tryz.ntmps114
      go_wp2_with fail
      refine (unhide H0).mono ?_
      rintro e w0 ⟨rfl, hw0⟩
      rw [hw0]
      clear hw0 w0
      go_wp2
      go_ret
      exact ⟨rfl, unhide HD, Only.refl _ _⟩
  · rw [hd] at H0 HA HP HS
    have e0 : (db || true) = true := by simp
    rw [e0] at HA HP HS
    have e2 : av = 2 := unhide HA
    subst e2
    have HO := hide (Only.setCell w ⟨P, 7, none⟩ (.bool true))
    go_enter Tryz.func114, Tryz.ntmps114
    go_wp2_with fail
    refine (unhide H0).mono ?_
    rintro e w0 ⟨rfl, hw0⟩
    rw [hw0]
    clear hw0 w0
    go_wp2
    go_ret
    exact ⟨rfl, unhide HS, unhide HO⟩
theorem generation_any (h : PD P D d p vw vl vu w) : Calls Tryz.prog 40 #[ptr P] w fun e w' => e = .returned (I p.h.gen) ∧ w' = w := by
  obtain ⟨c0, c1, c2, c3, c4, c5, c6, c7⟩ := h.c
  have hlt := h.lt
  clear h
  obtain ⟨⟨g, r, b, n⟩, us, pins, db⟩ := p
  simp only at c1 c2 c3 c4 c6 c7 ⊢
  go_enter Tryz.func40, Tryz.ntmps40
  go_wp2
  go_ret
  exact ⟨rfl, rfl⟩
theorem root_any (h : PD P D d p vw vl vu w) : Calls Tryz.prog 54 #[ptr P] w fun e w' => e = .returned (I p.h.root) ∧ w' = w := by
  obtain ⟨c0, c1, c2, c3, c4, c5, c6, c7⟩ := h.c
  have hlt := h.lt
  clear h
  obtain ⟨⟨g, r, b, n⟩, us, pins, db⟩ := p
  simp only at c1 c2 c3 c4 c6 c7 ⊢
  go_enter Tryz.func54, Tryz.ntmps54
  go_wp2
  go_ret
  exact ⟨rfl, rfl⟩
theorem note_any (h : PD P D d p vw vl vu w) (hn : p.h.note.length ≤ 1000) : Calls Tryz.prog 55 #[ptr P] w fun e w' => e = .returned (S p.h.note) ∧ Below w.heap.size w w' := by
  obtain ⟨c0, c1, c2, c3, c4, c5, c6, c7⟩ := h.c
  have hlt := h.lt
  have H := hide (clone_any p.h.note w (by omega))
  clear h
  obtain ⟨⟨g, r, b, n⟩, us, pins, db⟩ := p
  simp only at c1 c2 c3 c4 c6 c7 H ⊢
  go_enter Tryz.func55, Tryz.ntmps55
  go_wp2_with fail
  refine (unhide H).mono ?_
  rintro e w1 ⟨rfl, b1⟩
  have HB := hide b1
  clear b1
  go_wp2
  go_ret
  exact ⟨rfl, unhide HB⟩
theorem countFree_any {v : Value} {u : Us} {w : World} (h : Uls w v u) (hl : u.length ≤ 1000000) : Calls Tryz.prog 121 #[v, .func (.func 120) #[] #[]] w fun e w' => e = .returned (I (sel u frb).length) ∧ w' = w := by
  obtain ⟨p, cap, rfl⟩ := owns_form h
  have H := hide h
  clear h
  go_enter Tryz.func121, Tryz.ntmps121
  go_wp2
  go_loopw [5, 9] (fun c i wr => ∃ k : Nat, k ≤ u.length ∧ i = .int .i64 k ∧ (∃ m : Nat, c = .int .i64 m ∧ m = (selk u frb k).length) ∧ wr = w) (fun _ i _ => u.length - (Go.RowKit.intOf i).toNat)
  case atStart => exact ⟨0, by omega, rfl, ⟨0, rfl, rfl⟩, rfl⟩
  case round =>
    obtain ⟨k, hk, rfl, ⟨m, rfl, hm⟩, rfl⟩ := hrel
    have hmk : m ≤ k := by rw [hm]; exact selk_len u frb k
    by_cases hlt : k < u.length
    · have hlt' : (k : Int) < (u.length : Int) := by omega
      have hn := selk_next u frb k
      obtain ⟨g, cap', e, hg, hc⟩ := ((unhide H).at hlt)
      cases e
      have H1 := hide (fun W => isFree_any (u.getD k 0) W)
      unfold B at H1
      change Hid (∀ W, Calls Tryz.prog 120 #[.int .u8 ((u.getD k 0).toNat : Int)] W fun e w' => e = .returned (.bool (frb (u.getD k 0))) ∧ w' = W) at H1
      have hx := (u.getD k 0).toNat_lt
      have HM := hide hm
      have HN := hide hn
      clear hn hm
      by_cases h2 : 2 ≤ k
      · have h2' : (2 : Int) ≤ (k : Int) := by omega
        cases hp : frb (u.getD k 0)
        · rw [hp] at H1
          have HS := hide (show m = (selk u frb (k + 1)).length by rw [unhide HN, hp, unhide HM]; simp)
          generalize (u.getD k 0).toNat = x at *
          clear hp
          go_wp2_with (go_at_call 120; refine (unhide H1 _).mono ?_; rintro e w2 ⟨rfl, hw⟩; rw [hw]; clear hw w2)
          go_round
          case measure => simp [Go.RowKit.intOf]; omega
          case rel => exact ⟨k + 1, by omega, by simp, ⟨m, rfl, unhide HS⟩, by first | trivial | rfl⟩
        · rw [hp] at H1
          have HS := hide (show m + 1 = (selk u frb (k + 1)).length by rw [unhide HN, hp, unhide HM]; simp [h2])
          generalize (u.getD k 0).toNat = x at *
          clear hp
          go_wp2_with (go_at_call 120; refine (unhide H1 _).mono ?_; rintro e w2 ⟨rfl, hw⟩; rw [hw]; clear hw w2)
          go_round
          case measure => simp [Go.RowKit.intOf]; omega
          case rel => exact ⟨k + 1, by omega, by simp, ⟨m + 1, by go_num, unhide HS⟩, by first | trivial | rfl⟩
      · have h2' : ¬ (2 : Int) ≤ (k : Int) := by omega
        have HS := hide (show m = (selk u frb (k + 1)).length by rw [unhide HN, unhide HM]; simp [h2])
        go_wp2
        go_round
        case measure => simp [Go.RowKit.intOf]; omega
        case rel => exact ⟨k + 1, by omega, by simp, ⟨m, rfl, unhide HS⟩, by first | trivial | rfl⟩
    · have hlt' : ¬ (k : Int) < (u.length : Int) := by omega
      obtain rfl : k = u.length := by omega
      have HM := hide hm
      clear hm
      go_wp2
      go_ret
      exact ⟨ret_int (by rw [unhide HM]; rfl), rfl⟩
end Go.Proofs.YtjopnhhdemfniaaGreatDoor
namespace Go.Proofs.YtjopnhhdemfniaaGreatDoor
open Go.RowKit
set_option maxHeartbeats 8000000
set_option maxRecDepth 8000
variable {P D : Nat} {d : Ds} {p : Pr} {vw vl vu : Value} {w w' : World}
theorem PD.few (h : PD P D d p vw vl vu w) : p.use.length ≤ 4096 := by rw [h.len]; exact h.ok.len.2
theorem free_any (h : PD P D d p vw vl vu w) : Calls Tryz.prog 49 #[ptr P] w fun e w' => e = .returned (I (sel p.use frb).length) ∧ w' = w := by
  obtain ⟨c0, c1, c2, c3, c4, c5, c6, c7⟩ := h.c
  have hlt := h.lt
  have H := hide (countFree_any h.us (by have := h.few; omega))
  obtain ⟨q, cap, rfl⟩ := owns_form h.us
  clear h c0 c1 c2 c3 c4 c6 c7
  generalize p.use.length = ln at *
  generalize (sel p.use frb).length = m at *
  go_enter Tryz.func49, Tryz.ntmps49
  go_wp2_with fail
  refine (unhide H).mono ?_
  rintro e w1 ⟨rfl, rfl⟩
  go_wp2
  go_ret
  exact ⟨rfl, rfl⟩
/-- Numbers that came out in new memory, and one beside them. -/
def InsOut (l : List Int) (w : World) (V : Value) (w' : World) : Prop := w'.ownsRow 0 3 1 V l.length (l.map fun n => I n) ∧ (∀ k, V.ownBlock = some k → w.heap.size ≤ k)
def nxt (d : Ds) (p : Pr) (k : Int) : List Int × Int := if k < 0 then ([], 1) else if askv d p ≠ 0 then ([], askv d p) else if ((sel p.use frb).length : Int) < k then ([], 92) else ((sel p.use frb).take k.toNat, 0)
theorem next_any (h : PD P D d p vw vl vu w) (k : Int) (hk : k ≤ 9223372036854775807) : Calls Tryz.prog 48 #[ptr P, I k] w fun e w' => ∃ V, e = .returned (.tuple #[V, I (nxt d p k).2]) ∧ InsOut (nxt d p k).1 w V w' ∧ PD P D d (if k < 0 then p else p.ask d) vw vl vu w' ∧ Only (fun k => k = P) w w' := by
  have H0 := hide (ask_any h)
  have hfew := h.few
  have HD := hide h
  have HN := hide (show nxt d p k = if k < 0 then ([], 1) else if askv d p ≠ 0 then ([], askv d p) else if ((sel p.use frb).length : Int) < k then ([], 92) else ((sel p.use frb).take k.toNat, 0) from rfl)
  clear h
  by_cases hk0 : k < 0
  · rw [if_pos hk0]
    have e := unhide HN
    rw [if_pos hk0] at e
    rw [e]
    clear e HN H0
    go_enter Tryz.func48, Tryz.ntmps48
    go_wp2
    go_ret2
    exact ⟨_, rfl, ⟨owns_nil _ _ _, fun _ q => nomatch q⟩, unhide HD, Only.refl _ _⟩
  · rw [if_neg hk0]
    obtain ⟨m, rfl⟩ : ∃ m : Nat, k = (m : Int) := ⟨k.toNat, by omega⟩
    have e := unhide HN
    rw [if_neg hk0] at e
    by_cases ha : askv d p = 0
    · rw [if_neg (by simp [ha]), Int.toNat_natCast] at e
      rw [ha] at H0
      have huse : (p.ask d).use = p.use := rfl
      have HE := hide e
      clear e HN hk0
      generalize hpa : p.ask d = pa at *
      rw [← huse] at HE hfew
      generalize nxt d p m = NX at *
      clear huse hpa
      go_enter Tryz.func48, Tryz.ntmps48
      go_wp2_with fail
      refine (unhide H0).mono ?_
      rintro e w1 ⟨rfl, h1, o1⟩
      obtain ⟨c0, c1, c2, c3, c4, c5, c6, c7⟩ := h1.c
      have hlt := h1.lt
      have H1 := hide (leastFree_any h1.us m (by omega))
      obtain ⟨q, cap, hv⟩ := owns_form h1.us
      rw [hv] at c5 H1
      have H1w := hide h1
      have HO := hide o1
      clear h1 o1 hv c0 c1 c2 c3 c4 c6 c7
      generalize pa.use.length = ln at *
      go_wp2_with fail
      refine (unhide H1).mono ?_
      rintro e w2 ⟨V, rfl, r2, n2, b2⟩
      have hl2 : ((sel pa.use frb).take m).length = min m (sel pa.use frb).length := List.length_take
      rw [hl2] at r2
      have HP2 := hide ((unhide H1w).below b2)
      have HO2 := hide ((unhide HO).trans (Only.of_below (P := fun k => k = P) b2) (fun _ _ q => q))
      have HS := hide (unhide HO).size
      by_cases hs : (sel pa.use frb).length < m
      · have hmin : min m (sel pa.use frb).length = (sel pa.use frb).length := by omega
        rw [hmin] at r2
        obtain ⟨q2, cap2, rfl⟩ := owns_form r2
        have hs' : ((sel pa.use frb).length : Int) < (m : Int) := by omega
        have e := unhide HE
        rw [if_pos hs'] at e
        subst e
        clear r2 n2 b2 hl2
        generalize (sel pa.use frb).length = sl at *
        go_wp2
        go_ret2
        exact ⟨_, rfl, ⟨owns_nil _ _ _, fun _ q => nomatch q⟩, unhide HP2, unhide HO2⟩
      · have hmin : min m (sel pa.use frb).length = m := by omega
        rw [hmin] at r2 hl2
        obtain ⟨q2, cap2, rfl⟩ := owns_form r2
        have e := unhide HE
        rw [if_neg (by omega)] at e
        subst e
        have HR := hide (show InsOut ((sel pa.use frb).take m) w (.slice q2 m cap2) w2 from ⟨by rw [hl2]; exact r2, fun k hk => Nat.le_trans (unhide HS) (n2 k hk)⟩)
        clear r2 n2 b2 hl2 hs
        go_wp2
        go_ret2
        exact ⟨_, rfl, unhide HR, unhide HP2, unhide HO2⟩
    · rw [if_pos ha] at e
      rw [e]
      clear e HN
      generalize askv d p = av at *
      go_enter Tryz.func48, Tryz.ntmps48
      go_wp2_with fail
      refine (unhide H0).mono ?_
      rintro e w1 ⟨rfl, h1, o1⟩
      have H1 := hide (And.intro h1 o1)
      clear h1 o1
      go_wp2
      go_ret2
      exact ⟨_, rfl, ⟨owns_nil _ _ _, fun _ q => nomatch q⟩, unhide H1⟩
/-- What Read tells. -/
def rdp (d : Ds) (p : Pr) (n : Int) : Pg × Int := if askv d p ≠ 0 then (noPg, askv d p) else if hasv p.use n 255 = false then (noPg, 93) else prp (readS d n)
theorem hasv_in {u : Us} {n : Int} {m : UInt8} (h : hasv u n m = true) : 0 ≤ n ∧ n < u.length := by
  simp only [hasv, Bool.and_eq_true, decide_eq_true_eq] at h
  exact h.1
/-- A page comes out of its box. -/
theorem outP {fn : Func} {t q : Tmp} {W : World} {a : Act} {Z : Nat} {x : Pg} {r : Option Addr} {cap : Nat} {v : Value} {Post : Ending → World → Prop} (hf : fn.results = #[.cell t 24, .tmp q]) (hd : a.defers = []) (ht : a.tmps.getD t undef = .pointer (some ⟨Z, 0, none⟩)) (hv : a.tmps.getD q undef = v) (h : W.heap[Z]? = some (.cells (pgc x r cap) 24 (0, 0))) (hp : Post (.returned (.tuple #[pga x r cap, v])) W) : bodyPost Tryz.prog fn Post .ret a W := by
  obtain ⟨e0, e1, e2, e3, e4⟩ := box5 h (Below.refl _ _) (lt_of_row h)
  subst hv
  exact bodyPost_ret (results_p2 hf _ _ Z _ _ _ _ _ ht e0 e1 e2 e3 e4) hd hp
end Go.Proofs.YtjopnhhdemfniaaGreatDoor
namespace Go.Proofs.YtjopnhhdemfniaaGreatDoor
open Go.RowKit
set_option maxHeartbeats 8000000
set_option maxRecDepth 8000
/-- Pages in memory. -/
def Pgs (w : World) (a : Option Addr) (n : Nat) (l : List Pg) : Prop :=
  n = l.length ∧ (0 < n → ∃ g o, a = some ⟨g, o, none⟩ ∧ ∀ j, j < n → ∃ q c, w.cell? ⟨g, o + j * 5, none⟩ = some (I (l.getD j noPg).kind) ∧ w.cell? ⟨g, o + j * 5 + 1, none⟩ = some (I (l.getD j noPg).number) ∧ w.cell? ⟨g, o + j * 5 + 2, none⟩ = some (I (l.getD j noPg).birth) ∧ w.cell? ⟨g, o + j * 5 + 3, none⟩ = some (.slice q (l.getD j noPg).links.length c) ∧ w.cell? ⟨g, o + j * 5 + 4, none⟩ = some (S (l.getD j noPg).body) ∧ Ins w q (l.getD j noPg).links.length (l.getD j noPg).links)
theorem Pgs.below {w w' : World} {a : Option Addr} {n : Nat} {l : List Pg} (h : Pgs w a n l) (hb : Below w.heap.size w w') : Pgs w' a n l := by
  refine ⟨h.1, fun hn => ?_⟩
  obtain ⟨g, o, e, hc⟩ := h.2 hn
  refine ⟨g, o, e, fun j hj => ?_⟩
  obtain ⟨q, c, c0, c1, c2, c3, c4, hi⟩ := hc j hj
  have hg := blk_lt c0
  exact ⟨q, c, (hb.cell hg).trans c0, (hb.cell hg).trans c1, (hb.cell hg).trans c2, (hb.cell hg).trans c3, (hb.cell hg).trans c4, hi.below hb⟩
theorem Pgs.at {w : World} {a : Option Addr} {n : Nat} {l : List Pg} (h : Pgs w a n l) {j : Nat} (hj : j < n) : ∃ g o q c, a = some ⟨g, o, none⟩ ∧ g < w.heap.size ∧ w.cell? ⟨g, o + j * 5, none⟩ = some (I (l.getD j noPg).kind) ∧ w.cell? ⟨g, o + j * 5 + 1, none⟩ = some (I (l.getD j noPg).number) ∧ w.cell? ⟨g, o + j * 5 + 2, none⟩ = some (I (l.getD j noPg).birth) ∧ w.cell? ⟨g, o + j * 5 + 3, none⟩ = some (.slice q (l.getD j noPg).links.length c) ∧ w.cell? ⟨g, o + j * 5 + 4, none⟩ = some (S (l.getD j noPg).body) ∧ Ins w q (l.getD j noPg).links.length (l.getD j noPg).links := by
  obtain ⟨g, o, e, hc⟩ := h.2 (by omega)
  obtain ⟨q, c, c0, c1, c2, c3, c4, hi⟩ := hc j hj
  exact ⟨g, o, q, c, e, blk_lt c0, c0, c1, c2, c3, c4, hi⟩
/-- What pages bear that are not too great. -/
def Fit (l : List Pg) : Prop := ∀ x ∈ l, x.links.length ≤ 1000000000000 ∧ x.body.length ≤ 1000000000000
theorem Fit.at {l : List Pg} (h : Fit l) {k : Nat} (hk : k < l.length) : (l.getD k noPg).links.length ≤ 1000000000000 ∧ (l.getD k noPg).body.length ≤ 1000000000000 := h _ (mem_getD hk)
theorem allF_next (l : List Pg) (k : Nat) (hk : k < l.length) : (l.take (k + 1)).all Pg.fresh = ((l.take k).all Pg.fresh && (l.getD k noPg).fresh) := by
  rw [List.take_succ_eq_append_getElem hk, List.all_append]
  simp [hk]
theorem allF_bad (l : List Pg) (k : Nat) (hk : k < l.length) (h : (l.getD k noPg).fresh = false) : l.all Pg.fresh = false := by
  rw [Bool.eq_false_iff]
  intro q
  rw [List.all_eq_true] at q
  have := q (l.getD k noPg) (mem_getD hk)
  rw [h] at this
  cases this
theorem allMayBe_any (a : Option Addr) (n cap : Nat) (l : List Pg) (w : World) (hp : Pgs w a n l) (hf : Fit l) (hn : n ≤ 1000000000000) :
    Calls Tryz.prog 124 #[.slice a n cap] w fun e w' => e = .returned (.bool (l.all Pg.fresh)) ∧ Below w.heap.size w w' := by
  have hN := hp.1
  subst hN
  have HP := hide hp
  have HF := hide hf
  clear hp hf
  go_enter Tryz.func124, Tryz.ntmps124
  go_wp2
  go_loopw [7] (fun i wr => ∃ k : Nat, k ≤ l.length ∧ i = .int .i64 k ∧ (l.take k).all Pg.fresh = true ∧ Below w.heap.size w wr) (fun i _ => l.length - (Go.RowKit.intOf i).toNat)
  case atStart => exact ⟨0, by omega, rfl, rfl, Below.refl _ _⟩
  case round =>
    obtain ⟨k, hk, rfl, ha, hb⟩ := hrel
    by_cases hlt : k < l.length
    · have hlt' : (k : Int) < (l.length : Int) := by omega
      obtain ⟨g, o, q, c, rfl, hg, c0, c1, c2, c3, c4, hi⟩ := ((unhide HP).below hb).at hlt
      have hft := (unhide HF).at hlt
      have HN := hide (allF_next l k hlt)
      have HW := hide (allF_bad l k hlt)
      generalize l.getD k noPg = x at *
      have bA := (Below.refl wr.heap.size wr).alloc (Nat.le_refl _) (.cells (pgc x q c) 24)
      have H1 := hide (mayBeFresh_any x q c _ (hi.below bA) hft.1 hft.2)
      have HB := hide (hb.trans (bA.mono hb.size))
      have HA := hide ha
      clear ha hb bA hi hft
      generalize x.fresh = fr at *
      obtain ⟨xk, xn, xb, xl, xs⟩ := x
      unfold pga pgc at H1
      unfold pgc at HB
      simp only at c0 c1 c2 c3 c4 H1 HB
      generalize xl.length = m at *
      go_wp2_with fail
      refine (unhide H1).mono ?_
      rintro e w1 ⟨rfl, b1⟩
      have HB1 := hide ((unhide HB).trans (b1.mono (unhide HB).size))
      clear b1
      cases fr
      · go_wp2
        go_ret
        exact ⟨ret_bool (by first | exact (unhide HW rfl).symm | exact (unhide HW trivial).symm), unhide HB1⟩
      · have HA2 := hide (show (l.take (k + 1)).all Pg.fresh = true by rw [unhide HN, unhide HA]; rfl)
        go_wp2
        go_round
        case measure => simp [Go.RowKit.intOf]; omega
        case rel => exact ⟨k + 1, by omega, by simp, unhide HA2, unhide HB1⟩
    · have hlt' : ¬ (k : Int) < (l.length : Int) := by omega
      rw [List.take_of_length_le (by omega)] at ha
      have HA := hide ha
      have HB := hide hb
      clear ha hb
      go_wp2
      go_ret
      exact ⟨ret_bool (unhide HA).symm, unhide HB⟩
/-- Numbers half laid. -/
def hlf (l : List Int) (k : Nat) : List Value := (l.take k).map (fun z => I z) ++ List.replicate (l.length - k) (I 0)
theorem hlf_zero (l : List Int) : hlf l 0 = List.replicate l.length (I 0) := by simp [hlf]
theorem hlf_all (l : List Int) : hlf l l.length = l.map fun z => I z := by simp [hlf]
theorem hlf_len (l : List Int) (k : Nat) (hk : k ≤ l.length) : (hlf l k).length = l.length := by simp [hlf]; omega
theorem hlf_set (l : List Int) (k : Nat) (hk : k < l.length) : (hlf l k).set k (I (l.getD k 0)) = hlf l (k + 1) := by
  unfold hlf
  rw [List.set_append_right _ _ (by simp; omega)]
  have e : k - (List.map (fun z => I z) (l.take k)).length = 0 := by simp; omega
  rw [e, show l.length - k = (l.length - (k + 1)) + 1 by omega, List.replicate_succ, List.set_cons_zero, List.take_succ_eq_append_getElem hk, List.map_append, List.append_assoc]
  simp [hk]
theorem numbersOf_any (a : Option Addr) (n cap : Nat) (l : List Pg) (w : World) (hp : Pgs w a n l) (hn : n ≤ 1000000000) :
    Calls Tryz.prog 123 #[.slice a n cap] w fun e w' => ∃ V, e = .returned V ∧ w'.ownsRow 0 3 1 V n ((l.map Pg.number).map fun z => I z) ∧ (∀ k, V.ownBlock = some k → w.heap.size ≤ k) ∧ Below w.heap.size w w' := by
  have hN := hp.1
  have hml : (l.map Pg.number).length = n := by rw [List.length_map]; exact hN.symm
  have hgd : ∀ k, k < n → (l.map Pg.number).getD k 0 = (l.getD k noPg).number := by
    intro k hk
    have : k < l.length := by omega
    simp [this]
  generalize hM : l.map Pg.number = M at *
  have HP := hide hp
  have HM := hide hgd
  have HL := hide hml
  clear hp hgd hM hN
  go_enter Tryz.func123, Tryz.ntmps123
  go_wp2_with (refine make_own 22 3 _ 1 8 Tryz.underlying22 info3 rfl (.tmp 7) (.tmp 7) rfl _ _ n (by rfl) (by rfl) rfl rfl (by omega) (by omega) ?_; intro w1 ho1 b1 l1; have HO := hide ho1; have HB1 := hide b1; clear ho1 b1)
  have HO2 : Hid (w1.ownsRow 0 3 1 (.slice (some ⟨w.heap.size, 0, none⟩) n n) n (hlf M 0)) := hide (by
    have := unhide HO
    rw [hlf_zero, unhide HL]
    rw [Nat.mul_one, made1 _ rfl n] at this
    exact this)
  clear HO
  go_loopw [11] (fun i wr => ∃ k : Nat, k ≤ n ∧ i = .int .i64 k ∧ wr.ownsRow 0 3 1 (.slice (some ⟨w.heap.size, 0, none⟩) n n) n (hlf M k) ∧ Below w.heap.size w wr) (fun i _ => n - (Go.RowKit.intOf i).toNat)
  case atStart => exact ⟨0, by omega, rfl, unhide HO2, unhide HB1⟩
  case round =>
    clear HO2 HB1
    obtain ⟨k, hk, rfl, ho, hb⟩ := hrel
    by_cases hlt : k < n
    · have hlt' : (k : Int) < (n : Int) := by omega
      obtain ⟨g, o, q, c, rfl, hg, c0, c1, c2, c3, c4, hi⟩ := ((unhide HP).below hb).at hlt
      have hv : M.getD k 0 = (l.getD k noPg).number := unhide HM k hlt
      have hml := unhide HL
      have hset := hlf_set M k (by omega)
      rw [hv] at hset
      generalize l.getD k noPg = x at *
      obtain ⟨xk, xn, xb, xl, xs⟩ := x
      simp only at c0 c1 c2 c3 c4 hset
      have bA := (Below.refl wr.heap.size wr).alloc (Nat.le_refl _) (.cells #[I xk, I xn, I xb, .slice q xl.length c, S xs] 24)
      have ho2 := owns_below ho bA
      have hcell : ∃ u, (wr.alloc (.cells #[I xk, I xn, I xb, .slice q xl.length c, S xs] 24)).cell? ⟨w.heap.size, k, none⟩ = some u := ⟨_, owns_cell ho2 k _ (List.getElem?_eq_getElem (by rw [hlf_len _ _ (by omega)]; omega))⟩
      obtain ⟨u0, hu0⟩ := hcell
      obtain ⟨gg, cc, cur, ee, hh, _⟩ := owns_at ho2 (by omega)
      have hgg : w.heap.size = gg := by cases ee; rfl
      have hfz : (wr.alloc (.cells #[I xk, I xn, I xb, .slice q xl.length c, S xs] 24)).frozen? ⟨w.heap.size, k, none⟩ = false := by rw [hgg]; exact frz hh k
      have hos := owns_set ho k (I xn)
      rw [hset] at hos
      have HOS := hide (owns_alloc hos (.cells #[I xk, I xn, I xb, .slice q xl.length c, S xs] 24))
      have HB := hide ((hb.setCell (p := ⟨w.heap.size, k, none⟩) (Nat.le_refl _) (I xn)).alloc (by simp [World.setCell]; exact hb.size) (.cells #[I xk, I xn, I xb, .slice q xl.length c, S xs] 24))
      have hwl : w.heap.size < wr.heap.size := owns_blk ho _ rfl
      clear ho hb bA ho2 hos hh ee hi hset hv hml hgg
      generalize xl.length = m at *
      go_wp2
      go_round
      case measure => simp [Go.RowKit.intOf]; omega
      case rel => exact ⟨k + 1, by omega, by simp, unhide HOS, unhide HB⟩
    · have hlt' : ¬ (k : Int) < (n : Int) := by omega
      obtain rfl : k = n := by omega
      rw [show hlf M k = M.map (fun z => I z) by rw [← unhide HL]; exact hlf_all M] at ho
      have HOS := hide ho
      have HB := hide hb
      clear ho hb
      go_wp2
      go_ret
      exact ⟨_, rfl, unhide HOS, fun i hi => by cases hi; exact Nat.le_refl _, unhide HB⟩
end Go.Proofs.YtjopnhhdemfniaaGreatDoor
namespace Go.Proofs.YtjopnhhdemfniaaGreatDoor
open Go.RowKit
set_option maxHeartbeats 8000000
set_option maxRecDepth 8000
variable {P D : Nat} {d : Ds} {p : Pr} {vw vl vu : Value} {w w' : World}
/-- A page came out; of the old blocks none but F turned. -/
def PgTo (F : Nat → Prop) (x : Pg) (er : Int) (w : World) (e : Ending) (w' : World) : Prop := ∃ q cap, e = .returned (.tuple #[pga x q cap, I er]) ∧ w'.ownsRow 0 3 1 (.slice q x.links.length cap) x.links.length (x.links.map fun z => I z) ∧ (∀ k, (Value.slice q x.links.length cap).ownBlock = some k → w.heap.size ≤ k) ∧ Only F w w'
theorem pgc_no : pgc noPg none 0 = #[I 0, I 0, I 0, .slice none 0 0, S []] := rfl
theorem ask_alive (h : askv d p = 0) : d.dead = false ∧ p.doubt = false := by
  unfold askv at h
  cases hd : d.dead <;> cases hp : p.doubt <;> simp_all
theorem readP_any (h : PD P D d p vw vl vu w) (n : Int) (hn : n ≤ 9223372036854775807) : Calls Tryz.prog 53 #[ptr P, I n] w fun e w' => PgTo (fun k => k = P) (rdp d p n).1 (rdp d p n).2 w e w' ∧ PD P D d (p.ask d) vw vl vu w' := by
  have ZB := (Below.refl w.heap.size w).alloc (Nat.le_refl _) (.cells #[I 0, I 0, I 0, .slice none 0 0, S []] 24)
  have Z0 := heap_alloc_new w (.cells #[I 0, I 0, I 0, .slice none 0 0, S []] 24)
  have hA := h.below ZB
  have hzl := lt_of_row Z0
  have hP := h.lt
  have H0 := hide (ask_any hA)
  have hfew := h.few
  have HN := hide (show rdp d p n = if askv d p ≠ 0 then (noPg, askv d p) else if hasv p.use n 255 = false then (noPg, 93) else prp (readS d n) from rfl)
  have huse : (p.ask d).use = p.use := rfl
  have hlen := h.len
  have hpd := fun q : askv d p = 0 => ask_alive q
  rw [← huse] at HN hfew hlen
  have HLN := hide hlen
  have HOld := hide h.old
  clear hlen
  generalize p.ask d = pa at *
  have HZB := hide ZB
  have HZ0 := hide Z0
  clear h hA ZB Z0 huse
  by_cases ha : askv d p = 0
  · have HDead := hide (hpd ha).1
    rw [ha] at H0 HN
    have e := unhide HN
    rw [if_neg (by simp)] at e
    clear hpd ha HN
    cases hh : hasv pa.use n 255
    · rw [hh, if_pos rfl] at e
      rw [e]
      clear e
      go_enter Tryz.func53, Tryz.ntmps53
      go_wp2_with fail
      refine (unhide H0).mono ?_
      rintro e w1 ⟨rfl, h1, o1⟩
      generalize w.alloc (.cells #[I 0, I 0, I 0, .slice none 0 0, S []] 24) = W0 at *
      obtain ⟨c0, c1, c2, c3, c4, c5, c6, c7⟩ := h1.c
      have hlt := h1.lt
      have H1 := hide (has_any h1.us n 255 hn)
      rw [hh] at H1
      unfold B at H1
      change Hid (Calls Tryz.prog 132 #[vu, I n, .int .u8 255] w1 _) at H1
      obtain ⟨q, cap, hv⟩ := owns_form h1.us
      rw [hv] at c5 H1
      have hZ1 := (o1.block _ hzl (by omega)).trans (unhide HZ0)
      have HD1 := hide h1
      have HO1 := hide ((Only.of_below (P := fun k => k = P) (unhide HZB)).trans o1 (fun _ _ q => q))
      have HZ1 := hide hZ1
      clear h1 o1 hZ1 c0 c1 c2 c3 c4 c6 c7 hh hv
      generalize pa.use.length = ln at *
      go_wp2_with fail
      refine (unhide H1).mono ?_
      rintro e w2 ⟨rfl, hw2⟩
      rw [hw2]
      clear hw2 w2
      go_wp2_with (refine wp_st24 rfl (.tmp 4) (.tmp 22) rfl w.heap.size (by rfl) 0 0 0 none 0 0 [] (by rfl) _ rfl (unhide HZ1) ?_)
      have h5 := setRow_heap _ _ _ #[I 0, I 0, I 0, .slice none 0 0, S []] 24 _ (unhide HZ1)
      have oF := setRow_only' w1 w.heap.size #[I 0, I 0, I 0, .slice none 0 0, S []]
      rw [← pgc_no] at h5 oF ⊢
      refine outP (t := 4) (q := 5) (x := noPg) rfl (by rfl) (by rfl) (by rfl) h5 ⟨⟨none, 0, rfl, owns_nil _ _ _, (fun _ q => nomatch q), (unhide HO1).trans oF (fun k hk q => by omega)⟩, ?_⟩
      exact (unhide HD1).only oF (fun k hk q => by have := unhide HOld k hk; omega)
    · rw [hh, if_neg (by simp)] at e
      rw [e]
      clear e
      have hin := hasv_in hh
      have hrv : reachv d n = 0 := by
        have hl := unhide HLN
        unfold reachv
        rw [if_neg (by rw [unhide HDead]; simp), if_neg (by omega), if_neg (by omega)]
      have HPP := hide (fun W => parsePage_any (readS d n) W)
      generalize prp (readS d n) = pp at *
      obtain ⟨x, er⟩ := pp
      simp only at HPP ⊢
      have HRV := hide hrv
      clear hin hrv
      go_enter Tryz.func53, Tryz.ntmps53
      go_wp2_with fail
      refine (unhide H0).mono ?_
      rintro e w1 ⟨rfl, h1, o1⟩
      generalize w.alloc (.cells #[I 0, I 0, I 0, .slice none 0 0, S []] 24) = W0 at *
      obtain ⟨c0, c1, c2, c3, c4, c5, c6, c7⟩ := h1.c
      have hlt := h1.lt
      have H1 := hide (has_any h1.us n 255 hn)
      rw [hh] at H1
      unfold B at H1
      change Hid (Calls Tryz.prog 132 #[vu, I n, .int .u8 255] w1 _) at H1
      obtain ⟨q, cap, hv⟩ := owns_form h1.us
      rw [hv] at c5 H1
      have hZ1 := (o1.block _ hzl (by omega)).trans (unhide HZ0)
      have HD1 := hide h1
      have HO1 := hide ((Only.of_below (P := fun k => k = P) (unhide HZB)).trans o1 (fun _ _ q => q))
      have HZ1 := hide hZ1
      have HRd := hide (read_any h1.dat h1.ok n)
      rw [unhide HRV] at HRd
      clear h1 o1 hZ1 c1 c2 c3 c4 c6 c7 hh hv
      generalize pa.use.length = ln at *
      generalize readS d n = s at *
      go_wp2_with fail
      refine (unhide H1).mono ?_
      rintro e w2 ⟨rfl, hw2⟩
      rw [hw2]
      clear hw2 w2
      go_wp2_with fail
      refine (unhide HRd).mono ?_
      rintro e w2 ⟨rfl, b2⟩
      have B2 := hide b2
      clear b2
      go_wp2_with fail
      refine (unhide HPP _).mono ?_
      rintro e w3 ⟨q3, cap3, rfl, r3, n3, b3⟩
      have B3 := hide ((unhide B2).trans (b3.mono (unhide B2).size))
      have HZ3 := hide (((unhide B3).block _ (lt_of_row (unhide HZ1))).trans (unhide HZ1))
      have R3 := hide r3
      have N3 := hide n3
      have hs12 : w1.heap.size ≤ w2.heap.size := (unhide B2).size
      have hzl1 : w.heap.size < w1.heap.size := lt_of_row (unhide HZ1)
      obtain ⟨xk, xn, xb, xl, xs⟩ := x
      unfold pga
      simp only at R3 N3 ⊢
      clear b3 r3 n3
      generalize hxl : xl.length = m at *
      have HXL := hide hxl
      clear hxl
      go_wp2_with (refine wp_st24 rfl (.tmp 4) (.tmp 38) rfl w.heap.size (by rfl) xk xn xb q3 m cap3 xs (by rfl) _ rfl (unhide HZ3) ?_)
      have h5 := setRow_heap _ _ _ #[I xk, I xn, I xb, .slice q3 m cap3, S xs] 24 _ (unhide HZ3)
      have oF := setRow_only' w3 w.heap.size #[I xk, I xn, I xb, .slice q3 m cap3, S xs]
      have hxl := unhide HXL
      have e5 : #[I xk, I xn, I xb, .slice q3 m cap3, S xs] = pgc ⟨xk, xn, xb, xl, xs⟩ q3 cap3 := by unfold pgc; rw [hxl]
      rw [e5] at h5 oF ⊢
      refine outP (t := 4) (q := 5) (x := ⟨xk, xn, xb, xl, xs⟩) (r := q3) (cap := cap3) rfl (by rfl) (by rfl) (by rfl) h5 ⟨⟨q3, cap3, rfl, ?_, ?_, ?_⟩, ?_⟩
      · simp only
        rw [hxl]
        exact owns_only (unhide R3) oF (fun i hi e => by have := unhide N3 i hi; omega)
      · simp only
        rw [hxl]
        intro k hk
        have := unhide N3 k hk
        omega
      · exact ((unhide HO1).trans (Only.of_below (P := fun k => k = P) (unhide B3)) (fun _ _ q => q)).trans oF (fun k hk q => by omega)
      · exact ((unhide HD1).below (unhide B3)).only oF (fun k hk q => by have := unhide HOld k hk; omega)
  · have e := unhide HN
    rw [if_pos ha] at e
    rw [e]
    generalize askv d p = av at *
    clear e HN hpd
    go_enter Tryz.func53, Tryz.ntmps53
    go_wp2_with fail
    refine (unhide H0).mono ?_
    rintro e w1 ⟨rfl, h1, o1⟩
    generalize w.alloc (.cells #[I 0, I 0, I 0, .slice none 0 0, S []] 24) = W0 at *
    have HZ1 := hide ((o1.block _ hzl (by omega)).trans (unhide HZ0))
    have HD1 := hide h1
    have HO1 := hide ((Only.of_below (P := fun k => k = P) (unhide HZB)).trans o1 (fun _ _ q => q))
    clear h1 o1
    go_wp2_with (refine wp_st24 rfl (.tmp 4) (.tmp 13) rfl w.heap.size (by rfl) 0 0 0 none 0 0 [] (by rfl) _ rfl (unhide HZ1) ?_)
    have h5 := setRow_heap _ _ _ #[I 0, I 0, I 0, .slice none 0 0, S []] 24 _ (unhide HZ1)
    have oF := setRow_only' w1 w.heap.size #[I 0, I 0, I 0, .slice none 0 0, S []]
    rw [← pgc_no] at h5 oF ⊢
    refine outP (t := 4) (q := 5) (x := noPg) rfl (by rfl) (by rfl) (by rfl) h5 ⟨⟨none, 0, rfl, owns_nil _ _ _, (fun _ q => nomatch q), (unhide HO1).trans oF (fun k hk q => by omega)⟩, ?_⟩
    exact (unhide HD1).only oF (fun k hk q => by have := unhide HOld k hk; omega)
end Go.Proofs.YtjopnhhdemfniaaGreatDoor
namespace Go.Proofs.YtjopnhhdemfniaaGreatDoor
open Go.RowKit
set_option maxHeartbeats 8000000
set_option maxRecDepth 8000
theorem made_zero (n : Nat) : (madeCells (Value.int .u8 0).cells (n * 1)).toList = (List.replicate n (0 : UInt8)).map B := by
  rw [Nat.mul_one, made1 _ rfl n]
  simp [B]
/-- What a head without a root reaches. -/
theorem reach0_any {D : Nat} (g b : Int) (n : Bs) (w : World) (m : Nat) (hb : b = (m : Int)) (hm : m ≤ 4096) :
    Calls Tryz.prog 109 #[ptr D, .agg #[I g, I 0, I b, S n]] w fun e w' => ∃ vu, e = .returned (.tuple #[vu, .bool true]) ∧ Uls w' vu (List.replicate m 0) ∧ (∀ k, vu.ownBlock = some k → w.heap.size ≤ k) ∧ Below w.heap.size w w' := by
  subst hb
  have HB := hide ((Below.refl w.heap.size w).alloc (Nat.le_refl _) (.cells #[I g, I 0, I m, S n] 123))
  have HG := hide (heap_alloc_new w (.cells #[I g, I 0, I m, S n] 123))
  have hm0 : (0 : Int) ≤ (m : Int) := by omega
  go_enter Tryz.func109, Tryz.ntmps109
  go_wp2_with (refine make_own 168 5 _ 1 1 Tryz.underlying168 info5 rfl (.tmp 12) (.tmp 12) rfl _ _ m (by rfl) (by rfl) rfl rfl (by omega) (by omega) ?_; intro w1 ho1 b1 l1; have c1 := box4 (unhide HG) b1 (lt_of_row (unhide HG)); obtain ⟨d0, d1, d2, d3⟩ := c1; have HO := hide ho1; have HB1 := hide ((unhide HB).trans (b1.mono (unhide HB).size)); clear ho1 b1)
  go_loopw [7] (fun V wr => V = .slice none 0 0 ∧ wr = w1) (fun _ _ => 0)
  case atStart => exact ⟨rfl, rfl⟩
  case round =>
    obtain ⟨rfl, hwr⟩ := hrel
    subst hwr
    go_wp2
    go_ret2
    refine ⟨_, rfl, ?_, fun k hk => ?_, unhide HB1⟩
    · have := unhide HO
      rw [show (w.alloc (.cells #[I g, I 0, I m, S n] 123)).heap.size = w.heap.size + 1 by simp] at this
      unfold Uls
      rw [List.length_replicate, ← made_zero]
      exact this
    · cases hk
      show w.heap.size ≤ w.heap.size + 1
      omega
theorem hon_blocks (d : Ds) (b : Nat) (h : (hon d b).2 = true) : (hon d b).1.blocks = (d.last.length : Int) := by
  unfold hon at *
  split at h
  · rename_i q
    rw [if_pos q]
    simp only [hok, Bool.and_eq_true, beq_iff_eq] at h
    exact h.1.2
  · cases h
theorem lst_blocks (d : Ds) (k : Nat) : lst d k = noHd ∨ (lst d k).blocks = (d.last.length : Int) := by
  induction k with
  | zero => exact .inl rfl
  | succ k ih =>
    unfold lst
    split
    · rename_i h
      exact .inr (hon_blocks d k h.1)
    · exact ih
theorem hct_blocks (d : Ds) (h : (hct d).2 = true) : (hct d).1.blocks = (d.last.length : Int) := by
  rcases lst_blocks d 2 with e | e
  · unfold hct at h
    rw [e] at h
    simp [noHd] at h
  · exact e
/-- A store without a root is mounted. -/
theorem mount0_any {D : Nat} {d : Ds} {vw vl : Value} {w : World} (h : DAt D d vw vl w) (ho : Ok d) (hd : d.dead = false) (hc : (hct d).2 = true) (hr : (hct d).1.root = 0) :
    Calls Tryz.prog 39 #[ptr D] w fun e w' => ∃ P vu, e = .returned (.tuple #[ptr P, I 0]) ∧ PD P D d ⟨(hct d).1, List.replicate d.last.length 0, 0, false⟩ vw vl vu w' ∧ w.heap.size ≤ P ∧ (∀ k, vu.ownBlock = some k → w.heap.size ≤ k) ∧ Below w.heap.size w w' := by
  have H0 := hide (dead_any h)
  rw [hd] at H0
  have H1 := hide (headThatCounts_any h ho)
  have hb := hct_blocks d hc
  rw [hc] at H1
  have HD := hide h
  have HO := hide ho
  have hlen := ho.len
  generalize (hct d).1 = x at *
  obtain ⟨g, r, b, nt⟩ := x
  unfold hda at H1
  simp only at H1 hb hr
  subst hr hb
  have HR := hide (fun W => reach0_any (D := D) g (d.last.length : Int) nt W d.last.length rfl hlen.2)
  generalize hln : d.last.length = ln at *
  have HLN := hide hln
  clear h ho hd hc hln
  go_enter Tryz.func39, Tryz.ntmps39
  go_wp2_with fail
  refine (unhide H0).mono ?_
  rintro e w0 ⟨rfl, hw0⟩
  rw [hw0]
  clear hw0 w0
  go_wp2_with fail
  refine (unhide H1).mono ?_
  rintro e w1 ⟨rfl, b1⟩
  have B1 := hide (b1.alloc b1.size (.cells #[I g, I 0, I ln, S nt] 123))
  have HG := hide (heap_alloc_new w1 (.cells #[I g, I 0, I ln, S nt] 123))
  clear b1
  go_wp2_with fail
  refine (unhide HR _).mono ?_
  rintro e w2 ⟨vu, rfl, u2, n2, b2⟩
  obtain ⟨c0, c1, c2, c3⟩ := box4 (unhide HG) b2 (lt_of_row (unhide HG))
  obtain ⟨q, cap, rfl⟩ := owns_form u2
  have B2 := hide ((unhide B1).trans (b2.mono (unhide B1).size))
  have U2 := hide u2
  have N2 := hide (fun k hk => Nat.le_trans (unhide B1).size (n2 k hk))
  clear u2 n2 b2
  generalize hrl : (List.replicate ln (0 : UInt8)).length = rl at *
  clear hrl
  go_wp2
  go_ret2
  have hb3 := (unhide B2).alloc (unhide B2).size (.cells #[ptr D, I g, I 0, I ln, S nt, .slice q rl cap, .int .u8 0, .bool false] 172)
  refine ⟨w2.heap.size, .slice q rl cap, rfl, ⟨(unhide HD).below hb3, unhide HO, heap_alloc_new _ _, owns_alloc (unhide U2) _, by simp; exact (unhide HLN).symm⟩, (unhide B2).size, unhide N2, hb3⟩
end Go.Proofs.YtjopnhhdemfniaaGreatDoor
