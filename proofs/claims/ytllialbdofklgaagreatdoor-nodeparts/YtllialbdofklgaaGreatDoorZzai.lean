import Derived.Test.YtllialbdofklgaaGreatDoorZzah
import Derived.Test.YtllialbdofklgaaGreatDoorZzag
import Derived.WalkKit
namespace Go.Proofs.YtllialbdofklgaaGreatDoor
open Go.RowKit Go.Lib
/-- The text that stands there. -/
def rTextS (most : Int) (R : List UInt8) : List UInt8 := (R.drop (ahd most)).take (nat (R.take (ahd most)))
def rTextK (most : Int) (R : List UInt8) : Nat := ahd most + nat (R.take (ahd most))
theorem ahd_le (most : Int) : 1 ≤ ahd most ∧ ahd most ≤ 2 := by unfold ahd; split <;> omega
theorem nat_ahd (R : List UInt8) (k : Nat) (hk : k ≤ 2) : nat (R.take k) < 65536 := by
  have := nat_lt (R.take k)
  have h2 : 256 ^ (R.take k).length ≤ 256 ^ 2 := Nat.pow_le_pow_right (by omega) (by rw [List.length_take]; omega)
  have h3 : 256 ^ 2 = 65536 := by decide
  omega
set_option maxHeartbeats 2000000 in
set_option maxRecDepth 8000 in
theorem rtext_any (b g off cap : Nat) (R : List UInt8) (E : Nat) (most : Int) (w : World) (h : RAt b g off cap R E w) (hR : R.length ≤ 9223372036854775807) :
    Calls Tryz.prog 94 #[.pointer (some ⟨b, 0, none⟩), .int .i64 most] w fun e w' => e = .returned (.string ⟨(if fine E (rTextE most R) then rTextS most R else []).toArray⟩) ∧ RTo b g (rGo R E (rTextE most R) (rTextK most R)).1 (rGo R E (rTextE most R) (rTextK most R)).2 w w' := by
  have c0 := h.c0
  have c1 := h.c1
  have f1 := h.fz 1
  have ha := ahd_le most
  have hcap := h.bys.cap
  by_cases hE : E = 0
  · subst hE
    rw [errV_0] at c1
    by_cases hs : 0 ≤ most ∧ most ≤ 65535
    · have hsd : decide (0 ≤ most ∧ most ≤ 65535) = true := by simpa using hs
      have hs0 := hs.1
      have hs1 := hs.2
      by_cases hl : R.length < ahd most
      · have he : rTextE most R = 22 := by unfold rTextE; rw [if_pos hs, if_pos hl]
        rw [he, rGo_bad (by decide), fine_bad (by decide)]
        have HLS := hide (lengthSize_any most w)
        have H := hide h
        clear h he hs
        generalize hk : ahd most = k at *
        clear hk
        go_enter Tryz.func94, Tryz.ntmps94
        go_wp2_with fail
        refine (unhide HLS).mono ?_
        rintro e w' ⟨rfl, rfl⟩
        go_wp2_with fail
        refine (bounded_any most w').mono ?_
        rintro e w'' ⟨rfl, rfl⟩
        rw [hsd]
        go_wp2
        go_ret
        exact ⟨rfl, RTo.err (E' := 22) (unhide H)⟩
      · have hlk : ahd most ≤ R.length := by omega
        have hnl := nat_ahd R (ahd most) (by omega)
        by_cases h21 : most < (nat (R.take (ahd most)) : Int)
        · have he : rTextE most R = 21 := by unfold rTextE; rw [if_pos hs, if_neg hl, if_pos h21]
          rw [he, rGo_bad (by decide), fine_bad (by decide)]
          have hby := take_drop_bys h.bys (ahd most) hlk
          have hln : (R.take (ahd most)).length = ahd most := by rw [List.length_take]; omega
          have HLS := hide (lengthSize_any most w)
          have H := hide h
          have HBY := hide hby
          have HLN := hide hln
          have hq : ∀ W : World, Only (fun _ => False) w W → Calls Tryz.prog 114 #[.slice (some ⟨g, off, none⟩) (ahd most) cap] W fun e w' => e = .returned (.int .i64 (nat (R.take (ahd most)))) ∧ w' = W := fun W hW => number_any g off cap (ahd most) (R.take (ahd most)) W ((unhide HBY).keep hW (fun q => q)) (unhide HLN) (by omega) (by omega)
          have HQ := hide hq
          clear h he hs hby hln hq
          generalize hk : ahd most = k at *
          generalize hN : nat (R.take k) = N at *
          have HKK := hide hk
          have HNN := hide hN
          clear hk hN
          go_enter Tryz.func94, Tryz.ntmps94
          go_wp2_with fail
          refine (unhide HLS).mono ?_
          rintro e w' ⟨rfl, rfl⟩
          go_wp2_with fail
          refine (bounded_any most w').mono ?_
          rintro e w'' ⟨rfl, rfl⟩
          rw [hsd]
          go_wp2_with fail
          refine (unhide HQ _ (Only.refl _ _)).mono ?_
          rintro e w'' ⟨rfl, rfl⟩
          go_wp2
          go_ret
          exact ⟨rfl, RTo.err (E' := 21) (unhide H)⟩
        · by_cases h22 : R.length - ahd most < nat (R.take (ahd most))
          · have he : rTextE most R = 22 := by unfold rTextE; rw [if_pos hs, if_neg hl, if_neg h21, if_pos h22]
            rw [he, rGo_bad (by decide), fine_bad (by decide)]
            have hby := take_drop_bys h.bys (ahd most) hlk
            have hln : (R.take (ahd most)).length = ahd most := by rw [List.length_take]; omega
            have HLS := hide (lengthSize_any most w)
            have H := hide h
            have HBY := hide hby
            have HLN := hide hln
            have hq : ∀ W : World, Only (fun _ => False) w W → Calls Tryz.prog 114 #[.slice (some ⟨g, off, none⟩) (ahd most) cap] W fun e w' => e = .returned (.int .i64 (nat (R.take (ahd most)))) ∧ w' = W := fun W hW => number_any g off cap (ahd most) (R.take (ahd most)) W ((unhide HBY).keep hW (fun q => q)) (unhide HLN) (by omega) (by omega)
            have HQ := hide hq
            clear h he hs hby hln hq
            generalize hk : ahd most = k at *
            generalize hN : nat (R.take k) = N at *
            have HKK := hide hk
            have HNN := hide hN
            clear hk hN
            go_enter Tryz.func94, Tryz.ntmps94
            go_wp2_with fail
            refine (unhide HLS).mono ?_
            rintro e w' ⟨rfl, rfl⟩
            go_wp2_with fail
            refine (bounded_any most w').mono ?_
            rintro e w'' ⟨rfl, rfl⟩
            rw [hsd]
            go_wp2_with fail
            refine (unhide HQ _ (Only.refl _ _)).mono ?_
            rintro e w'' ⟨rfl, rfl⟩
            have hwr : IntKind.i64.wrap ((R.length : Int) - (k : Int)) = (R.length : Int) - (k : Int) := IntWalk.i64_in _ (by omega)
            have hd : decide ((R.length : Int) - (k : Int) < (N : Int)) = true := by simp; omega
            have hd1 : (R.length : Int) - (k : Int) < (N : Int) := by omega
            go_wp2_with fail
            go_quiet ((go_at_call 114; first | exact Calls.quiet_of_same (unhide HQ _ (Only.refl _ _)) | exact Calls.quiet_of_same (unhide HQ _ (Only.drewN _ _ _)) | exact Calls.quiet_of_same (unhide HQ _ (Only.drew _ _))))
            have c1q : (w''.drewN nq).cell? ⟨b, 1, none⟩ = some .nilIface := c1
            have f1q : (w''.drewN nq).frozen? ⟨b, 1, none⟩ = false := f1
            have HRq := hide ((unhide H).keep (Only.drewN (fun _ => False) w'' nq) (fun q => q) (fun q => q))
            have HOq := hide (Only.drewN (fun k => k = b) w'' nq)
            generalize w''.drewN nq = wq at *
            go_wp2
            go_ret
            exact ⟨rfl, RTo.step (unhide HOq) (RTo.err (E' := 22) (unhide HRq))⟩
          · have he : rTextE most R = 0 := by unfold rTextE; rw [if_pos hs, if_neg hl, if_neg h21, if_neg h22]
            have HS := hide (show rTextS most R = (R.drop (ahd most)).take (nat (R.take (ahd most))) from rfl)
            have HK := hide (show rTextK most R = ahd most + nat (R.take (ahd most)) from rfl)
            rw [he, rGo_ok, fine_ok]
            have hby := take_drop_bys h.bys (ahd most) hlk
            have hln : (R.take (ahd most)).length = ahd most := by rw [List.length_take]; omega
            have HLS := hide (lengthSize_any most w)
            have H := hide h
            have HBY := hide hby
            have HLN := hide hln
            have hq : ∀ W : World, Only (fun _ => False) w W → Calls Tryz.prog 114 #[.slice (some ⟨g, off, none⟩) (ahd most) cap] W fun e w' => e = .returned (.int .i64 (nat (R.take (ahd most)))) ∧ w' = W := fun W hW => number_any g off cap (ahd most) (R.take (ahd most)) W ((unhide HBY).keep hW (fun q => q)) (unhide HLN) (by omega) (by omega)
            have HQ := hide hq
            clear h he hs hby hln hq
            generalize hk : ahd most = k at *
            generalize hN : nat (R.take k) = N at *
            have HKK := hide hk
            have HNN := hide hN
            clear hk hN
            go_enter Tryz.func94, Tryz.ntmps94
            go_wp2_with fail
            refine (unhide HLS).mono ?_
            rintro e w' ⟨rfl, rfl⟩
            go_wp2_with fail
            refine (bounded_any most w').mono ?_
            rintro e w'' ⟨rfl, rfl⟩
            rw [hsd]
            go_wp2_with fail
            refine (unhide HQ _ (Only.refl _ _)).mono ?_
            rintro e w'' ⟨rfl, rfl⟩
            have hwr : IntKind.i64.wrap ((R.length : Int) - (k : Int)) = (R.length : Int) - (k : Int) := IntWalk.i64_in _ (by omega)
            have hd : decide ((R.length : Int) - (k : Int) < (N : Int)) = false := by simp; omega
            go_wp2_with fail
            go_quiet ((go_at_call 114; first | exact Calls.quiet_of_same (unhide HQ _ (Only.refl _ _)) | exact Calls.quiet_of_same (unhide HQ _ (Only.drewN _ _ _)) | exact Calls.quiet_of_same (unhide HQ _ (Only.drew _ _))))
            have HRq := hide ((unhide H).keep (Only.drewN (fun _ => False) w'' nq) (fun q => q) (fun q => q))
            have HOq := hide (Only.drewN (fun k => k = b) w'' nq)
            have HQq := hide (fun W (hW : Only (fun k => k = b) w'' W) => number_any g off cap k (R.take k) W ((unhide HBY).keep hW (unhide H).ne) (unhide HLN) (by omega) (by rw [unhide HNN]; omega))
            generalize w''.drewN nq = wq at *
            go_wp2_with fail
            refine (take_any b g off cap R 0 k wq (unhide HRq) hlk hR).mono ?_
            rintro e w1 ⟨rfl, hto1⟩
            have hO1 := (unhide HOq).trans hto1.2 (fun _ _ q => q)
            have hnum := unhide HQq w1 hO1
            rw [unhide HNN] at hnum
            have HNUM := hide hnum
            clear hnum
            go_wp2_with fail
            refine (unhide HNUM).mono ?_
            rintro e w2 ⟨rfl, rfl⟩
            obtain ⟨off1, cap1, hR1⟩ := hto1.1
            have hln1 : N ≤ (R.drop k).length := by rw [List.length_drop]; omega
            have HR1 := hide hR1
            clear hR1
            go_wp2_with fail
            refine (take_any b g off1 cap1 (R.drop k) 0 N w2 (unhide HR1) hln1 (by rw [List.length_drop]; omega)).mono ?_
            rintro e w3 ⟨rfl, hto2⟩
            have hx := ((unhide HR1).bys.keep hto2.2 (unhide HR1).ne).text N hln1 cap1
            have HX := hide hx
            have hO2 := hO1.trans hto2.2 (fun _ _ q => q)
            clear hx
            go_wp2_with (refine wpList_conv rfl 79 9 (.tmp 15) rfl _ _ (by rfl) (unhide HX) ?_)
            go_ret
            refine ⟨?_, ?_, hO2⟩
            · rw [unhide HS]; rfl
            · rw [unhide HK, ← List.drop_drop]; exact hto2.1
    · have he : rTextE most R = 1 := by simp [rTextE, hs]
      have hsd : decide (0 ≤ most ∧ most ≤ 65535) = false := by simpa using hs
      rw [he, rGo_bad (by decide), fine_bad (by decide)]
      have HLS := hide (lengthSize_any most w)
      have H := hide h
      clear hs he h
      go_enter Tryz.func94, Tryz.ntmps94
      go_wp2_with fail
      refine (unhide HLS).mono ?_
      rintro e w' ⟨rfl, rfl⟩
      go_wp2_with fail
      refine (bounded_any most w').mono ?_
      rintro e w'' ⟨rfl, rfl⟩
      rw [hsd]
      go_wp2
      go_ret
      exact ⟨rfl, RTo.err (E' := 1) (unhide H)⟩
  · rw [rGo_old hE, fine_old hE]
    rw [errV_ne hE] at c1
    have HLS := hide (lengthSize_any most w)
    have H := hide h
    clear h
    go_enter Tryz.func94, Tryz.ntmps94
    go_wp2_with fail
    refine (unhide HLS).mono ?_
    rintro e w' ⟨rfl, rfl⟩
    go_wp2
    go_ret
    exact ⟨rfl, RTo.same (unhide H)⟩
/-- What Done of a Reader says, where nothing was wrong. -/
def rDone (R : List UInt8) (E : Nat) : Nat := if E ≠ 0 then E else if R = [] then 0 else 23
set_option maxHeartbeats 1000000 in
set_option maxRecDepth 8000 in
theorem rdone_ok (b g off cap : Nat) (R : List UInt8) (w : World) (h : RAt b g off cap R 0 w) :
    Calls Tryz.prog 95 #[.pointer (some ⟨b, 0, none⟩)] w fun e w' => e = .returned (.int .i64 (rDone R 0)) ∧ Below w.heap.size w w' := by
  have c0 := h.c0
  have c1 := h.c1
  rw [errV_0] at c1
  have hlt := lt_of_row h.row
  clear h
  by_cases hR : R = []
  · subst hR
    go_enter Tryz.func95, Tryz.ntmps95
    go_wp2_with fail
    refine (as_nil _ _).mono ?_
    rintro e w1 ⟨rfl, rfl⟩
    go_wp2
    go_ret
    exact ⟨rfl, (Below.refl _ _).alloc (Nat.le_refl _) _⟩
  · have hpos : 0 < R.length := List.length_pos_iff.2 hR
    have HD : Hid (rDone R 0 = 23) := hide (by simp [rDone, hR])
    go_enter Tryz.func95, Tryz.ntmps95
    go_wp2_with fail
    refine (as_nil _ _).mono ?_
    rintro e w1 ⟨rfl, rfl⟩
    go_wp2
    go_ret
    exact ⟨by rw [unhide HD]; rfl, (Below.refl _ _).alloc (Nat.le_refl _) _⟩
end Go.Proofs.YtllialbdofklgaaGreatDoor
/- C8, of lists alone: what was laid down is read as it was. -/
namespace Go.Proofs.YtllialbdofklgaaGreatDoor
theorem nat_app (a b : List UInt8) : nat (a ++ b) = nat a * 256 ^ b.length + nat b := by
  have gen : ∀ (b : List UInt8) (n : Nat), b.foldl (fun n c => n * 256 + c.toNat) n = n * 256 ^ b.length + nat b := by
    intro b
    induction b with
    | nil => intro n; simp [nat]
    | cons c b ih =>
      intro n
      have h1 := ih (n * 256 + c.toNat)
      have h2 := ih c.toNat
      have e : nat (c :: b) = b.foldl (fun n c => n * 256 + c.toNat) c.toNat := by simp [nat]
      rw [List.foldl_cons, h1, e, h2, List.length_cons, Nat.pow_succ, Nat.add_mul, Nat.mul_assoc, Nat.mul_comm 256, ← Nat.add_assoc]
  unfold nat
  rw [List.foldl_append]
  exact gen b _
theorem be_succ (size n : Nat) : be (size + 1) n = be size (n / 256) ++ [UInt8.ofNat n] := by
  unfold be
  rw [List.range_succ, List.map_append]
  congr 1
  · apply List.map_congr_left
    intro i hi
    have hi' : i < size := List.mem_range.1 hi
    congr 1
    rw [show size + 1 - 1 - i = (size - 1 - i) + 1 by omega, Nat.pow_succ, Nat.mul_comm, ← Nat.div_div_eq_div_mul]
  · simp
theorem nat_be (size n : Nat) : nat (be size n) = n % 256 ^ size := by
  induction size generalizing n with
  | zero => simp [be, nat, Nat.mod_one]
  | succ size ih =>
    rw [be_succ, nat_app, ih]
    have e : nat [UInt8.ofNat n] = n % 256 := by simp [nat]
    rw [e]
    simp only [List.length_singleton, Nat.pow_one]
    rw [Nat.pow_succ, Nat.mul_comm (256 ^ size) 256, Nat.mod_mul]
    omega
theorem be_nat (l : List UInt8) : be l.length (nat l) = l := by
  suffices ∀ n : Nat, ∀ l : List UInt8, l.length = n → be n (nat l) = l from this l.length l rfl
  intro n
  induction n with
  | zero => intro l h; have := List.eq_nil_of_length_eq_zero h; subst this; rfl
  | succ n ih =>
    intro l h
    obtain ⟨m, c, rfl⟩ : ∃ m c, l = m ++ [c] := by
      refine ⟨l.take n, l[n]'(by omega), ?_⟩
      have := List.take_succ_eq_append_getElem (show n < l.length by omega)
      rw [List.take_of_length_le (by omega)] at this
      exact this
    have hm : m.length = n := by simpa using h
    have hc := c.toNat_lt
    rw [be_succ, nat_snoc]
    have e1 : (nat m * 256 + c.toNat) / 256 = nat m := by omega
    rw [e1, ih m hm]
    congr 2
    apply UInt8.toNat_inj.1
    rw [UInt8.toNat_ofNat']
    omega
end Go.Proofs.YtllialbdofklgaaGreatDoor
/- A region that draws its order, by an invariant: one goal an operation, not one an order. -/
namespace Go.Proofs.YtllialbdofklgaaGreatDoor
variable {P : Program} {ops : Array Oper} {Q : Exit → Act → World → Prop}
def upd (L : Nat → Bool) (i : Nat) : Nat → Bool := fun j => if j = i then true else L j
def left (listed : Array Bool) : Nat → Nat
  | 0 => 0
  | n + 1 => left listed n + (if listed.getD n true = false then 1 else 0)
theorem left_zero {listed : Array Bool} : ∀ {n : Nat}, left listed n = 0 → ∀ i, i < n → listed.getD i true = true := by
  intro n
  induction n with
  | zero => intro _ i hi; omega
  | succ n ih =>
    intro h i hi
    simp only [left] at h
    by_cases e : i = n
    · subst e
      cases hq : listed.getD i true
      · simp [hq] at h
      · rfl
    · exact ih (by omega) i (by omega)
theorem left_set {listed : Array Bool} {i : Nat} (hi : listed.getD i true = false) : ∀ {n : Nat}, i < n → left (listed.setIfInBounds i true) n + 1 = left listed n := by
  have hlt : i < listed.size := by
    rcases Nat.lt_or_ge i listed.size with h' | h'
    · exact h'
    · simp [Array.getElem?_eq_none h'] at hi
  have hself : (listed.setIfInBounds i true).getD i true = true := by simp [hlt]
  have low : ∀ n, n ≤ i → left (listed.setIfInBounds i true) n = left listed n := by
    intro n
    induction n with
    | zero => intro _; rfl
    | succ n ih =>
      intro h
      simp only [left]
      rw [ih (by omega), getD_set_ne true (by omega)]
  intro n
  induction n with
  | zero => intro h; omega
  | succ n ih =>
    intro h
    simp only [left]
    by_cases e : i = n
    · subst e
      rw [low i (Nat.le_refl _), hself, hi]
      simp
    · rw [getD_set_ne true e]
      have := ih (by omega)
      omega
theorem any_inv (I : (Nat → Bool) → Act → World → Prop)
    (hac : ∀ i o, ops[i]? = some o → ∀ e ∈ o.after, Region.binds .any e = true → e.on < i)
    (hstep : ∀ L a w i o, ops[i]? = some o → L i = false → (∀ e ∈ o.after, Region.binds .any e = true → L e.on = true) → I L a w → wpOp P ops Q i (fun a' w' => I (upd L i) a' w') a w)
    (hend : ∀ L a w, (∀ i, i < ops.size → L i = true) → I L a w → Q .normal a w) :
    ∀ fuel listed a w, listed.size = ops.size → left listed ops.size ≤ fuel → I (fun j => listed.getD j false) a w → wpAny P .any ops Q fuel listed a w := by
  have same : ∀ (listed : Array Bool) (j : Nat), j < listed.size → listed.getD j true = listed.getD j false := by
    intro listed j hj; simp [hj]
  have nil : ∀ (listed : Array Bool) (a : Act) (w : World), listed.size = ops.size → I (fun j => listed.getD j false) a w → Region.ready .any ops listed = [] → Q .normal a w := by
    intro listed a w hs hI hr
    refine hend _ a w ?_ hI
    intro i
    induction i using Nat.strongRecOn with
    | ind i ih =>
      intro hi
      cases hq : listed.getD i false
      · exfalso
        have hm : i ∈ Region.ready .any ops listed := by
          rw [mem_ready]
          refine ⟨by rw [same listed i (by omega)]; exact hq, ops[i], by simp [hi], ?_⟩
          intro e he hb
          have hlt := hac i ops[i] (by simp [hi]) e he hb
          exact ih e.on hlt (by omega)
        rw [hr] at hm
        cases hm
      · rfl
  intro fuel
  induction fuel with
  | zero =>
    intro listed a w hs hl hI
    have hr : Region.ready .any ops listed = [] := by
      cases hq : Region.ready .any ops listed with
      | nil => rfl
      | cons x xs =>
        have hm : x ∈ Region.ready .any ops listed := by rw [hq]; simp
        rw [mem_ready] at hm
        obtain ⟨h1, o, ho, _⟩ := hm
        have hlt : x < ops.size := (Array.getElem?_eq_some_iff.1 ho).1
        have := left_zero (listed := listed) (n := ops.size) (by omega) x hlt
        rw [this] at h1
        cases h1
    exact ⟨hr, nil listed a w hs hI hr⟩
  | succ fuel ih =>
    intro listed a w hs hl hI
    refine ⟨nil listed a w hs hI, ?_⟩
    intro i hi
    rw [mem_ready] at hi
    obtain ⟨h1, o, ho, hall⟩ := hi
    have hlt : i < ops.size := (Array.getElem?_eq_some_iff.1 ho).1
    refine wpOp_mono ?_ (hstep (fun j => listed.getD j false) a w i o ho (by rw [← same listed i (by omega)]; exact h1) hall hI)
    intro a' w' hI'
    refine ih (listed.setIfInBounds i true) a' w' (by simpa using hs) (by have := left_set h1 hlt; omega) ?_
    have e : (fun j => (listed.setIfInBounds i true).getD j false) = upd (fun j => listed.getD j false) i := by
      funext j
      unfold upd
      by_cases hj : j = i
      · subst hj
        simp [hs, hlt]
      · rw [if_neg hj, getD_set_ne false (Ne.symm hj)]
    rw [e]
    exact hI'
theorem region_inv {id : Nat} {a : Act} {w : World} (hm : P.follows .mixedOrders = true) (I : (Nat → Bool) → Act → World → Prop)
    (hac : ∀ i o, ops[i]? = some o → ∀ e ∈ o.after, Region.binds .any e = true → e.on < i)
    (h0 : I (fun _ => false) a w.drew)
    (hstep : ∀ L a w i o, ops[i]? = some o → L i = false → (∀ e ∈ o.after, Region.binds .any e = true → L e.on = true) → I L a w → wpOp P ops Q i (fun a' w' => I (upd L i) a' w') a w)
    (hend : ∀ L a w, (∀ i, i < ops.size → L i = true) → I L a w → Q .normal a w) : (Code.region id ops true).wp P Q a w := by
  refine wp_region_any hm ?_
  refine any_inv I hac hstep hend ops.size _ a _ (by simp) ?_ ?_
  · have : ∀ n, n ≤ ops.size → left (Array.replicate ops.size false) n ≤ n := by
      intro n
      induction n with
      | zero => intro _; simp [left]
      | succ n ih => intro h; simp only [left]; have := ih (by omega); split <;> omega
    exact this _ (Nat.le_refl _)
  · have e : (fun j => (Array.replicate ops.size false).getD j false) = fun _ => false := by
      funext j
      by_cases hj : j < ops.size
      · simp [hj]
      · simp [Array.getElem?_eq_none (show (Array.replicate ops.size false).size ≤ j by simp; omega)]
    rw [e]
    exact h0
end Go.Proofs.YtllialbdofklgaaGreatDoor
