import Derived.Test.YthddilflldkmfaaDoorRgra
namespace Go.Proofs.YthddilflldkmfaaDoor
open Go.RowKit Go.Lib
theorem getD_put (a : Act) (s : Nat) (v : Value) (h : s < a.tmps.size) : (a.put (some s) v).tmps.getD s undef = v := by
  have := put_get a s v h
  simp [Array.getD_eq_getD_getElem?, this]
theorem RTo.then_below {b g : Nat} {R2 : List UInt8} {E2 : Nat} {w w1 w2 : World} (h : RTo b g R2 E2 w w1) (hb : Below w1.heap.size w1 w2) : RTo b g R2 E2 w w2 := by
  obtain ⟨⟨off, cap, a⟩, o⟩ := h
  exact ⟨⟨off, cap, a.keep (Only.of_below (P := fun _ => False) hb) (fun q => q) (fun q => q)⟩, o.trans (Only.of_below (P := fun _ => False) hb) (fun _ _ q => q.elim)⟩
theorem RAt.below {b g off cap : Nat} {R : List UInt8} {E : Nat} {w w' : World} (h : RAt b g off cap R E w) (hb : Below w.heap.size w w') : RAt b g off cap R E w' :=
  h.keep (Only.of_below (P := fun _ => False) hb) (fun q => q) (fun q => q)
/-- What holds while something is read: the world as it was, or the Reader behind it. -/
def RdW (b g : Nat) (R' : List UInt8) (E' : Nat) (n : Nat) (w w1 : World) (L : Nat → Bool) (W : World) : Prop :=
  Only (fun k => k = b) w1 W ∧ (L n = false → Below w1.heap.size w1 W) ∧ (L n = true → RTo b g R' E' w W)
theorem RdW.quiet {b g : Nat} {R' : List UInt8} {E' n : Nat} {w w1 W w2 : World} {L : Nat → Bool} (hW : RdW b g R' E' n w w1 L W) (hb : Below W.heap.size W w2) (i : Nat) (hi : i ≠ n) : RdW b g R' E' n w w1 (upd L i) w2 := by
  have e : upd L i n = L n := by simp [upd, Ne.symm hi]
  refine ⟨hW.1.trans (Only.of_below (P := fun _ => False) hb) (fun _ _ q => q.elim), fun q => ?_, fun q => ?_⟩
  · rw [e] at q
    have := hW.2.1 q
    exact this.trans (hb.mono this.size)
  · rw [e] at q
    exact (hW.2.2 q).then_below hb
set_option maxHeartbeats 2000000 in
set_option maxRecDepth 8000 in
theorem reads0 (x : Raw) (b g off cap : Nat) (R : List UInt8) (E : Nat) (w : World) (h : x.Fit) (hk : pk x.k 3 = 0) (hr : RAt b g off cap R E w) (hR : R.length ≤ 9223372036854775807) :
    Calls Tryd.prog 37 #[x.val, .pointer (some ⟨b, 0, none⟩)] w fun e w' => e = .returned (.bool ((if fine E (rNumE x.size R) then (nat (R.take x.size) : Int) else 0) == (x.num : Int))) ∧ RTo b g (rGo R E (rNumE x.size R) x.size).1 (rGo R E (rNumE x.size R) x.size).2 w w' := by
  have HP := hide (fun W => pick_any x.k 3 W h.k.1 h.k.2 (by omega) (by omega))
  rw [hk] at HP
  have hbox := Box.new w x
  have hal : Below w.heap.size w (w.alloc (.cells #[.int .i64 x.k, .int .i64 x.s, .int .i64 x.n, .int .i64 x.m, .string ⟨x.t.toArray⟩] 57)) := (Below.refl _ _).alloc (Nat.le_refl _) _
  have hgb : ¬ (w.heap.size = b) := by
    have h1 := lt_of_row hr.row
    omega
  have HG := hide hgb
  have HS := hide (fun W => isize_any x W h)
  have HN := hide (fun W => inum_any x W h)
  have HW := hide (fun W (hW : Below w.heap.size w W) => rnum_any b g off cap R E x.size W (hr.below hW) hR)
  rw [Int.toNat_natCast] at HW
  generalize (if fine E (rNumE x.size R) then (nat (R.take x.size) : Int) else 0) = V at *
  generalize rGo R E (rNumE x.size R) x.size = ST at *
  unfold Raw.val at HS HN ⊢
  clear hr h hk hgb
  go_enter Tryd.func37, Tryd.ntmps37
  go_wp2_with fail
  refine (unhide HP _).mono ?_
  rintro e w1 ⟨rfl, rfl⟩
  have HBox := hide hbox
  have HAl := hide hal
  generalize w.alloc (.cells #[.int .i64 x.k, .int .i64 x.s, .int .i64 x.n, .int .i64 x.m, .string ⟨x.t.toArray⟩] 57) = w1 at *
  clear hal
  obtain ⟨b0, b1, b2, b3, b4, b5⟩ := hbox
  go_wp2_with fail
  refine rgr0 x b w.heap.size V rfl rfl rfl _ _ (show 17 ≤ 39 from by decide) rfl rfl (RdW b g ST.1 ST.2 3 w w1) ?h0 ?hp ?l1 ?c2 ?c3 ?l4 ?c5 ?_
  case h0 => exact ⟨Only.drew _ _, fun _ => (Below.refl _ _).drew, fun q => by cases q⟩
  case hp =>
    intro i hi L W hW
    have hne : i ≠ 3 := by intro e; subst e; simp at hi
    have e : upd L i 3 = L 3 := by simp [upd, Ne.symm hne]
    unfold RdW
    rw [e]
    exact hW
  case l1 => exact fun L W hW => (unhide HBox).keep hW.1 (unhide HG)
  case l4 => exact fun L W hW => (unhide HBox).keep hW.1 (unhide HG)
  case c2 =>
    intro L W hW _
    refine (unhide HS W).mono ?_
    rintro e w2 ⟨rfl, hb⟩
    exact ⟨rfl, hW.quiet hb 2 (by decide)⟩
  case c5 =>
    intro L W hW _
    refine (unhide HN W).mono ?_
    rintro e w2 ⟨rfl, hb⟩
    exact ⟨rfl, hW.quiet hb 5 (by decide)⟩
  case c3 =>
    intro L W hW hL
    have hbw := hW.2.1 hL
    refine (unhide HW W ((unhide HAl).trans (hbw.mono (unhide HAl).size))).mono ?_
    rintro e w2 ⟨rfl, hto⟩
    have h2 := RTo.step (Only.of_below ((unhide HAl).trans (hbw.mono (unhide HAl).size))) hto
    exact ⟨rfl, hW.1.trans hto.2 (fun _ _ q => q), fun q => by simp [upd] at q, fun _ => h2⟩
  intro L W hall hW
  have hto := hW.2.2 (hall 3 (by omega))
  clear hW hall
  go_wp2
  go_ret
  refine ⟨?_, hto⟩
  rw [getD_put _ _ _ (by simp only [put_size]; exact (show 4 < 39 from by decide))]
set_option maxHeartbeats 2000000 in
set_option maxRecDepth 8000 in
theorem reads1 (x : Raw) (b g off cap : Nat) (R : List UInt8) (E : Nat) (w : World) (h : x.Fit) (hk : pk x.k 3 = 1) (hr : RAt b g off cap R E w) (hR : R.length ≤ 9223372036854775807) :
    Calls Tryd.prog 37 #[x.val, .pointer (some ⟨b, 0, none⟩)] w fun e w' => e = .returned (.bool (decide ((if fine E (rTextE x.most R) then rTextS x.most R else []) = x.t.take 65535))) ∧ RTo b g (rGo R E (rTextE x.most R) (rTextK x.most R)).1 (rGo R E (rTextE x.most R) (rTextK x.most R)).2 w w' := by
  have HP := hide (fun W => pick_any x.k 3 W h.k.1 h.k.2 (by omega) (by omega))
  rw [hk] at HP
  have hbox := Box.new w x
  have hal : Below w.heap.size w (w.alloc (.cells #[.int .i64 x.k, .int .i64 x.s, .int .i64 x.n, .int .i64 x.m, .string ⟨x.t.toArray⟩] 57)) := (Below.refl _ _).alloc (Nat.le_refl _) _
  have hgb : ¬ (w.heap.size = b) := by
    have h1 := lt_of_row hr.row
    omega
  have HG := hide hgb
  have HM := hide (fun W => imost_any x W h)
  have HW := hide (fun W (hW : Below w.heap.size w W) => rtext_any b g off cap R E x.most W (hr.below hW) hR)
  generalize (if fine E (rTextE x.most R) then rTextS x.most R else []) = V at *
  generalize rGo R E (rTextE x.most R) (rTextK x.most R) = ST at *
  have ht := h.t
  obtain ⟨q, hq⟩ : ∃ q, min x.t.length 65535 = q := ⟨_, rfl⟩
  have hm8 : Value.int .i64 (if (65535 : Int) < (x.t.length : Int) then 65535 else (x.t.length : Int)) = .int .i64 (q : Int) := by congr 1; split <;> omega
  have hs9 : q ≤ x.t.length ∧ x.t.length ≤ 9223372036854775807 := by omega
  rw [← cut_take x.t q hq]
  have H8 := hide hm8
  have H9 := hide hs9
  clear hq hm8 hs9
  unfold Raw.val at HM ⊢
  clear hr h hk hgb
  go_enter Tryd.func37, Tryd.ntmps37
  go_wp2_with fail
  refine (unhide HP _).mono ?_
  rintro e w1 ⟨rfl, rfl⟩
  have HBox := hide hbox
  have HAl := hide hal
  generalize w.alloc (.cells #[.int .i64 x.k, .int .i64 x.s, .int .i64 x.n, .int .i64 x.m, .string ⟨x.t.toArray⟩] 57) = w1 at *
  clear hal
  obtain ⟨b0, b1, b2, b3, b4, b5⟩ := hbox
  go_wp2_with fail
  refine rgr1 x b w.heap.size q V rfl rfl rfl _ _ (show 31 ≤ 39 from by decide) rfl rfl (RdW b g ST.1 ST.2 3 w w1) ?h0 ?hp ?l1 ?c2 ?c3 ?l5 ?l7 (unhide H8) (unhide H9) ?_
  case h0 => exact ⟨Only.drew _ _, fun _ => (Below.refl _ _).drew, fun q => by cases q⟩
  case hp =>
    intro i hi L W hW
    have hne : i ≠ 3 := by intro e; subst e; simp at hi
    have e : upd L i 3 = L 3 := by simp [upd, Ne.symm hne]
    unfold RdW
    rw [e]
    exact hW
  case l1 => exact fun L W hW => (unhide HBox).keep hW.1 (unhide HG)
  case l5 => exact fun L W hW => ((unhide HBox).keep hW.1 (unhide HG)).c4
  case l7 => exact fun L W hW => ((unhide HBox).keep hW.1 (unhide HG)).c4
  case c2 =>
    intro L W hW _
    refine (unhide HM W).mono ?_
    rintro e w2 ⟨rfl, hb⟩
    exact ⟨rfl, hW.quiet hb 2 (by decide)⟩
  case c3 =>
    intro L W hW hL
    have hbw := hW.2.1 hL
    refine (unhide HW W ((unhide HAl).trans (hbw.mono (unhide HAl).size))).mono ?_
    rintro e w2 ⟨rfl, hto⟩
    have h2 := RTo.step (Only.of_below ((unhide HAl).trans (hbw.mono (unhide HAl).size))) hto
    exact ⟨rfl, hW.1.trans hto.2 (fun _ _ q => q), fun q => by simp [upd] at q, fun _ => h2⟩
  intro L W hall hW
  have hto := hW.2.2 (hall 3 (by omega))
  clear hW hall
  go_wp2
  go_ret
  refine ⟨?_, hto⟩
  rw [getD_put _ _ _ (by simp only [put_size]; exact (show 4 < 39 from by decide))]
set_option maxHeartbeats 2000000 in
set_option maxRecDepth 8000 in
theorem reads2 (x : Raw) (b g off cap : Nat) (R : List UInt8) (E : Nat) (w : World) (h : x.Fit) (hk : pk x.k 3 = 2) (hr : RAt b g off cap R E w) (hR : R.length ≤ 9223372036854775807) :
    Calls Tryd.prog 37 #[x.val, .pointer (some ⟨b, 0, none⟩)] w fun e w' => e = .returned (.bool (decide ((if fine E (rRawE x.t.length R) then R.take x.t.length else []) = x.t))) ∧ RTo b g (rGo R E (rRawE x.t.length R) x.t.length).1 (rGo R E (rRawE x.t.length R) x.t.length).2 w w' := by
  have HP := hide (fun W => pick_any x.k 3 W h.k.1 h.k.2 (by omega) (by omega))
  rw [hk] at HP
  have hbox := Box.new w x
  have hal : Below w.heap.size w (w.alloc (.cells #[.int .i64 x.k, .int .i64 x.s, .int .i64 x.n, .int .i64 x.m, .string ⟨x.t.toArray⟩] 57)) := (Below.refl _ _).alloc (Nat.le_refl _) _
  have hgb : ¬ (w.heap.size = b) := by
    have h1 := lt_of_row hr.row
    omega
  have HG := hide hgb
  have HW := hide (fun W (hW : Below w.heap.size w W) => rraw_any b g off cap R E x.t.length W (hr.below hW) hR)
  rw [Int.toNat_natCast] at HW
  generalize (if fine E (rRawE x.t.length R) then R.take x.t.length else []) = V at *
  generalize rGo R E (rRawE x.t.length R) x.t.length = ST at *
  unfold Raw.val at ⊢
  clear hr h hk hgb
  go_enter Tryd.func37, Tryd.ntmps37
  go_wp2_with fail
  refine (unhide HP _).mono ?_
  rintro e w1 ⟨rfl, rfl⟩
  have HBox := hide hbox
  have HAl := hide hal
  generalize w.alloc (.cells #[.int .i64 x.k, .int .i64 x.s, .int .i64 x.n, .int .i64 x.m, .string ⟨x.t.toArray⟩] 57) = w1 at *
  clear hal
  obtain ⟨b0, b1, b2, b3, b4, b5⟩ := hbox
  go_wp2_with fail
  refine rgr2 x b w.heap.size V rfl rfl rfl _ _ (show 39 ≤ 39 from by decide) rfl rfl (RdW b g ST.1 ST.2 4 w w1) ?h0 ?hp ?l2 ?c4 ?l6 ?_
  case h0 => exact ⟨Only.drew _ _, fun _ => (Below.refl _ _).drew, fun q => by cases q⟩
  case hp =>
    intro i hi L W hW
    have hne : i ≠ 4 := by intro e; subst e; simp at hi
    have e : upd L i 4 = L 4 := by simp [upd, Ne.symm hne]
    unfold RdW
    rw [e]
    exact hW
  case l2 => exact fun L W hW => ((unhide HBox).keep hW.1 (unhide HG)).c4
  case l6 => exact fun L W hW => ((unhide HBox).keep hW.1 (unhide HG)).c4
  case c4 =>
    intro L W hW hL
    have hbw := hW.2.1 hL
    refine (unhide HW W ((unhide HAl).trans (hbw.mono (unhide HAl).size))).mono ?_
    rintro e w2 ⟨rfl, hto⟩
    have h2 := RTo.step (Only.of_below ((unhide HAl).trans (hbw.mono (unhide HAl).size))) hto
    exact ⟨rfl, hW.1.trans hto.2 (fun _ _ q => q), fun q => by simp [upd] at q, fun _ => h2⟩
  intro L W hall hW
  have hto := hW.2.2 (hall 4 (by omega))
  clear hW hall
  go_wp2
  go_ret
  refine ⟨?_, hto⟩
  rw [getD_put _ _ _ (by simp only [put_size]; exact (show 4 < 39 from by decide))]
end Go.Proofs.YthddilflldkmfaaDoor
