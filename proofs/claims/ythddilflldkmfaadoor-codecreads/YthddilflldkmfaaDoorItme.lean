import Derived.Test.YthddilflldkmfaaDoorRgaa
namespace Go.Proofs.YthddilflldkmfaaDoor
open Go.RowKit Go.Lib
/-- A Reader and a Writer behind a step. -/
def Both (b gr c : Nat) (v : Value) (R' : List UInt8) (E' : Nat) (X' : List UInt8) (F' : Nat) (w W : World) : Prop :=
  ∃ v', (∃ off cap, RAt b gr off cap R' E' W) ∧ WAt c v' X' F' W ∧ Only (fun k => k = b ∨ foot c v k) w W ∧ ∀ q, v'.ownBlock = some q → v.ownBlock = some q ∨ w.heap.size ≤ q
theorem Both.then_below {b gr c : Nat} {v : Value} {R' X' : List UInt8} {E' F' : Nat} {w W W2 : World} (h : Both b gr c v R' E' X' F' w W) (hb : Below W.heap.size W W2) : Both b gr c v R' E' X' F' w W2 := by
  obtain ⟨v', ⟨off, cap, a⟩, d, o, f⟩ := h
  exact ⟨v', ⟨off, cap, a.below hb⟩, d.below hb, o.trans (Only.of_below (P := fun _ => False) hb) (fun _ _ q => q.elim), f⟩
/-- What holds while an item is read and written: which of the two calls have come up. -/
def AgW (b gr c : Nat) (v : Value) (R' : List UInt8) (E' : Nat) (X' : List UInt8) (F' : Nat) (w w1 : World) (L : Nat → Bool) (W : World) : Prop :=
  Only (fun k => k = b ∨ foot c v k) w1 W ∧ (L 6 = false → Below w1.heap.size w1 W) ∧ (L 7 = false → L 6 = true → RTo b gr R' E' w W) ∧ (L 7 = true → Both b gr c v R' E' X' F' w W) ∧ (L 7 = true → L 6 = true)
theorem AgW.quiet {b gr c : Nat} {v : Value} {R' X' : List UInt8} {E' F' : Nat} {w w1 W W2 : World} {L : Nat → Bool} (h : AgW b gr c v R' E' X' F' w w1 L W) (hb : Below W.heap.size W W2) (i : Nat) (h6 : i ≠ 6) (h7 : i ≠ 7) : AgW b gr c v R' E' X' F' w w1 (upd L i) W2 := by
  have e6 : upd L i 6 = L 6 := by simp [upd, Ne.symm h6]
  have e7 : upd L i 7 = L 7 := by simp [upd, Ne.symm h7]
  unfold AgW
  rw [e6, e7]
  refine ⟨h.1.trans (Only.of_below (P := fun _ => False) hb) (fun _ _ q => q.elim), fun q => ?_, fun q r => (h.2.2.1 q r).then_below hb, fun q => (h.2.2.2.1 q).then_below hb, h.2.2.2.2⟩
  have := h.2.1 q
  exact this.trans (hb.mono this.size)
theorem AgW.read {b gr c : Nat} {v : Value} {R' X' : List UInt8} {E' F' : Nat} {w w1 W W2 : World} {L : Nat → Bool} (h : AgW b gr c v R' E' X' F' w w1 L W) (hL : L 6 = false) (hal : Below w.heap.size w w1) (hto : RTo b gr R' E' W W2) : AgW b gr c v R' E' X' F' w w1 (upd L 6) W2 := by
  have hbw := h.2.1 hL
  have e7 : upd L 6 7 = L 7 := by simp [upd]
  have n7 : L 7 = false := by
    cases q : L 7
    · rfl
    · have := h.2.2.2.2 q
      rw [hL] at this
      cases this
  unfold AgW
  rw [e7, n7]
  exact ⟨h.1.trans hto.2 (fun _ _ q => .inl q), fun q => by simp [upd] at q, fun _ _ => RTo.step (Only.of_below (hal.trans (hbw.mono hal.size))) hto, (fun q => by cases q), (fun q => by cases q)⟩
theorem AgW.write {b gr c : Nat} {v : Value} {R' X' : List UInt8} {E' F' : Nat} {w w1 W W2 : World} {L : Nat → Bool} (h : AgW b gr c v R' E' X' F' w w1 L W) (hL : L 7 = false) (h6 : L 6 = true) (hb : b ≠ c) (hbv : v.ownBlock ≠ some b) (hg : gr ≠ c) (hgv : v.ownBlock ≠ some gr) (hto : WTo c v X' F' W W2) : AgW b gr c v R' E' X' F' w w1 (upd L 7) W2 := by
  have e6 : upd L 7 6 = L 6 := by simp [upd]
  obtain ⟨⟨off, cap, a⟩, o⟩ := h.2.2.1 hL h6
  obtain ⟨v', d, o2, f⟩ := hto
  unfold AgW
  rw [e6, h6]
  refine ⟨h.1.trans o2 (fun _ _ q => .inr q), (fun q => by cases q), (fun q => by simp [upd] at q), (fun _ => ?_), (fun _ => rfl)⟩
  refine ⟨v', ⟨off, cap, a.keep o2 (by rintro (q | q); exact hb q; exact hbv q) (by rintro (q | q); exact hg q; exact hgv q)⟩, d, Only.trans ⟨o.os, o.tape, o.output, o.size, fun k hk hp => o.block k hk (fun e => hp (.inl e))⟩ o2 (fun _ _ q => .inr q), fun q hq => ?_⟩
  rcases f q hq with r | r
  · exact .inl r
  · exact .inr (Nat.le_trans o.size r)
theorem rnum_le (R : List UInt8) (E : Nat) (size : Nat) : (if fine E (rNumE size R) then (nat (R.take size) : Int) else 0) ≤ 9223372036854775807 := by
  split
  · rename_i hf
    unfold fine at hf
    rw [Bool.and_eq_true] at hf
    have h0 : rNumE size R = 0 := by simpa using hf.2
    unfold rNumE at h0
    split at h0
    · rename_i hs
      split at h0
      · cases h0
      · rename_i hl
        split at h0
        · cases h0
        · rename_i h8
          have hln : (R.take size).length = size := by rw [List.length_take]; omega
          by_cases e : size = 8
          · have := (nat_first (R.take size) (by omega)).2 (by rw [getD_take R size (by omega)]; omega)
            omega
          · have := nat_small (R.take size) size (by omega) hln
            omega
    · cases h0
  · omega
set_option maxHeartbeats 2000000 in
set_option maxRecDepth 8000 in
theorem again0 (x : Raw) (b gr off cap c : Nat) (v : Value) (R X : List UInt8) (E F : Nat) (w : World) (h : x.Fit) (hk : pk x.k 3 = 0) (hr : RAt b gr off cap R E w) (hw : WAt c v X F w) (hR : R.length ≤ 9223372036854775807) (hX : X.length + R.length + 65538 ≤ 70368744177664)
    (hb : b ≠ c) (hbv : v.ownBlock ≠ some b) (hg : gr ≠ c) (hgv : v.ownBlock ≠ some gr) :
    Calls Tryd.prog 38 #[x.val, .pointer (some ⟨b, 0, none⟩), .pointer (some ⟨c, 0, none⟩)] w fun e w' => e = .returned (.tuple #[]) ∧ Both b gr c v (rGo R E (rNumE x.size R) x.size).1 (rGo R E (rNumE x.size R) x.size).2 (wPut X F (numE x.size (if fine E (rNumE x.size R) then (nat (R.take x.size) : Int) else 0)) (numY x.size (if fine E (rNumE x.size R) then (nat (R.take x.size) : Int) else 0))).1 (wPut X F (numE x.size (if fine E (rNumE x.size R) then (nat (R.take x.size) : Int) else 0)) (numY x.size (if fine E (rNumE x.size R) then (nat (R.take x.size) : Int) else 0))).2 w w' := by
  have HP := hide (fun W => pick_any x.k 3 W h.k.1 h.k.2 (by omega) (by omega))
  rw [hk] at HP
  have hbox := Box.new w x
  have hal : Below w.heap.size w (w.alloc (.cells #[.int .i64 x.k, .int .i64 x.s, .int .i64 x.n, .int .i64 x.m, .string ⟨x.t.toArray⟩] 57)) := (Below.refl _ _).alloc (Nat.le_refl _) _
  have hgb : ¬ (w.heap.size = b ∨ foot c v w.heap.size) := by
    have h1 := lt_of_row hr.row
    have h2 := lt_of_row hw.row
    rintro (e | e | e)
    · omega
    · omega
    · have := ((World.ownsRowF_of hw.own).lt _ e).2
      omega
  have HG := hide hgb
  have HS := hide (fun W => isize_any x W h)
  have HR := hide (fun W (hW : Below w.heap.size w W) => rnum_any b gr off cap R E x.size W (hr.below hW) hR)
  rw [Int.toNat_natCast] at HR
  have hV : (if fine E (rNumE x.size R) then (nat (R.take x.size) : Int) else 0) ≤ 9223372036854775807 := rnum_le R E x.size
  have HW := hide (fun W (hW : RTo b gr (rGo R E (rNumE x.size R) x.size).1 (rGo R E (rNumE x.size R) x.size).2 w W) => wnum_any c v X F x.size (if fine E (rNumE x.size R) then (nat (R.take x.size) : Int) else 0) W (hw.keep hW.2 (by rintro rfl; exact hb rfl) (fun k hk q => hbv (by rw [hk, q]))) hV (by omega))
  clear hV
  generalize hXT : wPut X F (numE x.size (if fine E (rNumE x.size R) then (nat (R.take x.size) : Int) else 0)) (numY x.size (if fine E (rNumE x.size R) then (nat (R.take x.size) : Int) else 0)) = XT at *
  generalize (if fine E (rNumE x.size R) then (nat (R.take x.size) : Int) else 0) = V at *
  generalize rGo R E (rNumE x.size R) x.size = ST at *
  clear hXT
  have HD := hide (And.intro hb (And.intro hbv (And.intro hg hgv)))
  unfold Raw.val at HS ⊢
  clear hr hw h hk hgb hb hbv hg hgv
  go_enter Tryd.func38, Tryd.ntmps38
  go_wp2_with fail
  refine (unhide HP _).mono ?_
  rintro e w1 ⟨rfl, rfl⟩
  have HBox := hide hbox
  have HAl := hide hal
  generalize w.alloc (.cells #[.int .i64 x.k, .int .i64 x.s, .int .i64 x.n, .int .i64 x.m, .string ⟨x.t.toArray⟩] 57) = w1 at *
  clear hal
  obtain ⟨b0, b1, b2, b3, b4, b5⟩ := hbox
  go_wp2_with fail
  refine rga0 x b c w.heap.size V rfl rfl rfl _ _ (show 26 ≤ 36 from by decide) rfl rfl rfl (AgW b gr c v ST.1 ST.2 XT.1 XT.2 w w1) ?h0 ?hp ?l1 ?c2 ?l4 ?c5 ?c6 ?c7 ?_
  case h0 => exact ⟨Only.drew _ _, (fun _ => (Below.refl _ _).drew), (fun _ q => by cases q), (fun q => by cases q), (fun q => by cases q)⟩
  case hp =>
    intro i hi L W hW
    have n6 : i ≠ 6 := by intro e; subst e; simp at hi
    have n7 : i ≠ 7 := by intro e; subst e; simp at hi
    exact hW.quiet (Below.refl _ _) i n6 n7
  case l1 => exact fun L W hW => (unhide HBox).keep hW.1 (unhide HG)
  case l4 => exact fun L W hW => (unhide HBox).keep hW.1 (unhide HG)
  case c2 =>
    intro L W hW _
    refine (unhide HS W).mono ?_
    rintro e w2 ⟨rfl, hb⟩
    exact ⟨rfl, hW.quiet hb 2 (by decide) (by decide)⟩
  case c5 =>
    intro L W hW _
    refine (unhide HS W).mono ?_
    rintro e w2 ⟨rfl, hb⟩
    exact ⟨rfl, hW.quiet hb 5 (by decide) (by decide)⟩
  case c6 =>
    intro L W hW hL
    have hbw := hW.2.1 hL
    refine (unhide HR W ((unhide HAl).trans (hbw.mono (unhide HAl).size))).mono ?_
    rintro e w2 ⟨rfl, hto⟩
    exact ⟨rfl, hW.read hL (unhide HAl) hto⟩
  case c7 =>
    intro L W hW hL _ _ h6
    refine (unhide HW W (hW.2.2.1 hL h6)).mono ?_
    rintro e w2 ⟨rfl, hto⟩
    exact ⟨rfl, hW.write hL h6 (unhide HD).1 (unhide HD).2.1 (unhide HD).2.2.1 (unhide HD).2.2.2 hto⟩
  intro L W hall hW
  have hto := hW.2.2.2.1 (hall 7 (by omega))
  clear hW hall
  go_wp2
  go_end0
  exact ⟨rfl, hto⟩
set_option maxHeartbeats 2000000 in
set_option maxRecDepth 8000 in
theorem again1 (x : Raw) (b gr off cap c : Nat) (v : Value) (R X : List UInt8) (E F : Nat) (w : World) (h : x.Fit) (hk : pk x.k 3 = 1) (hr : RAt b gr off cap R E w) (hw : WAt c v X F w) (hR : R.length ≤ 9223372036854775807) (hX : X.length + R.length + 65538 ≤ 70368744177664)
    (hb : b ≠ c) (hbv : v.ownBlock ≠ some b) (hg : gr ≠ c) (hgv : v.ownBlock ≠ some gr) :
    Calls Tryd.prog 38 #[x.val, .pointer (some ⟨b, 0, none⟩), .pointer (some ⟨c, 0, none⟩)] w fun e w' => e = .returned (.tuple #[]) ∧ Both b gr c v (rGo R E (rTextE x.most R) (rTextK x.most R)).1 (rGo R E (rTextE x.most R) (rTextK x.most R)).2 (wPut X F (textE x.most ((if fine E (rTextE x.most R) then rTextS x.most R else [])).length) (textY x.most (if fine E (rTextE x.most R) then rTextS x.most R else []))).1 (wPut X F (textE x.most ((if fine E (rTextE x.most R) then rTextS x.most R else [])).length) (textY x.most (if fine E (rTextE x.most R) then rTextS x.most R else []))).2 w w' := by
  have HP := hide (fun W => pick_any x.k 3 W h.k.1 h.k.2 (by omega) (by omega))
  rw [hk] at HP
  have hbox := Box.new w x
  have hal : Below w.heap.size w (w.alloc (.cells #[.int .i64 x.k, .int .i64 x.s, .int .i64 x.n, .int .i64 x.m, .string ⟨x.t.toArray⟩] 57)) := (Below.refl _ _).alloc (Nat.le_refl _) _
  have hgb : ¬ (w.heap.size = b ∨ foot c v w.heap.size) := by
    have h1 := lt_of_row hr.row
    have h2 := lt_of_row hw.row
    rintro (e | e | e)
    · omega
    · omega
    · have := ((World.ownsRowF_of hw.own).lt _ e).2
      omega
  have HG := hide hgb
  have HS := hide (fun W => imost_any x W h)
  have HR := hide (fun W (hW : Below w.heap.size w W) => rtext_any b gr off cap R E x.most W (hr.below hW) hR)
  have hV : ((if fine E (rTextE x.most R) then rTextS x.most R else [])).length ≤ R.length := by
    split
    · unfold rTextS; rw [List.length_take, List.length_drop]; omega
    · simp
  have HW := hide (fun W (hW : RTo b gr (rGo R E (rTextE x.most R) (rTextK x.most R)).1 (rGo R E (rTextE x.most R) (rTextK x.most R)).2 w W) => wtext_any c v X F x.most (if fine E (rTextE x.most R) then rTextS x.most R else []) W (hw.keep hW.2 (by rintro rfl; exact hb rfl) (fun k hk q => hbv (by rw [hk, q]))) (by omega))
  clear hV
  generalize hXT : wPut X F (textE x.most ((if fine E (rTextE x.most R) then rTextS x.most R else [])).length) (textY x.most (if fine E (rTextE x.most R) then rTextS x.most R else [])) = XT at *
  generalize (if fine E (rTextE x.most R) then rTextS x.most R else []) = V at *
  generalize rGo R E (rTextE x.most R) (rTextK x.most R) = ST at *
  clear hXT
  have HD := hide (And.intro hb (And.intro hbv (And.intro hg hgv)))
  unfold Raw.val at HS ⊢
  clear hr hw h hk hgb hb hbv hg hgv
  go_enter Tryd.func38, Tryd.ntmps38
  go_wp2_with fail
  refine (unhide HP _).mono ?_
  rintro e w1 ⟨rfl, rfl⟩
  have HBox := hide hbox
  have HAl := hide hal
  generalize w.alloc (.cells #[.int .i64 x.k, .int .i64 x.s, .int .i64 x.n, .int .i64 x.m, .string ⟨x.t.toArray⟩] 57) = w1 at *
  clear hal
  obtain ⟨b0, b1, b2, b3, b4, b5⟩ := hbox
  go_wp2_with fail
  refine rga1 x b c w.heap.size V rfl rfl rfl _ _ (show 36 ≤ 36 from by decide) rfl rfl rfl (AgW b gr c v ST.1 ST.2 XT.1 XT.2 w w1) ?h0 ?hp ?l1 ?c2 ?l4 ?c5 ?c6 ?c7 ?_
  case h0 => exact ⟨Only.drew _ _, (fun _ => (Below.refl _ _).drew), (fun _ q => by cases q), (fun q => by cases q), (fun q => by cases q)⟩
  case hp =>
    intro i hi L W hW
    have n6 : i ≠ 6 := by intro e; subst e; simp at hi
    have n7 : i ≠ 7 := by intro e; subst e; simp at hi
    exact hW.quiet (Below.refl _ _) i n6 n7
  case l1 => exact fun L W hW => (unhide HBox).keep hW.1 (unhide HG)
  case l4 => exact fun L W hW => (unhide HBox).keep hW.1 (unhide HG)
  case c2 =>
    intro L W hW _
    refine (unhide HS W).mono ?_
    rintro e w2 ⟨rfl, hb⟩
    exact ⟨rfl, hW.quiet hb 2 (by decide) (by decide)⟩
  case c5 =>
    intro L W hW _
    refine (unhide HS W).mono ?_
    rintro e w2 ⟨rfl, hb⟩
    exact ⟨rfl, hW.quiet hb 5 (by decide) (by decide)⟩
  case c6 =>
    intro L W hW hL
    have hbw := hW.2.1 hL
    refine (unhide HR W ((unhide HAl).trans (hbw.mono (unhide HAl).size))).mono ?_
    rintro e w2 ⟨rfl, hto⟩
    exact ⟨rfl, hW.read hL (unhide HAl) hto⟩
  case c7 =>
    intro L W hW hL _ _ h6
    refine (unhide HW W (hW.2.2.1 hL h6)).mono ?_
    rintro e w2 ⟨rfl, hto⟩
    exact ⟨rfl, hW.write hL h6 (unhide HD).1 (unhide HD).2.1 (unhide HD).2.2.1 (unhide HD).2.2.2 hto⟩
  intro L W hall hW
  have hto := hW.2.2.2.1 (hall 7 (by omega))
  clear hW hall
  go_wp2
  go_end0
  exact ⟨rfl, hto⟩
end Go.Proofs.YthddilflldkmfaaDoor
