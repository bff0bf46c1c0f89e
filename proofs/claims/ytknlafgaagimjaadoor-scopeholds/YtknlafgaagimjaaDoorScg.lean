import Derived.Test.YtknlafgaagimjaaDoorScf
namespace Go.Proofs.YtknlafgaagimjaaDoor
open Go.RowKit Go.Lib Go.Maps
theorem same_str (x y : Bs) : (Lit.string y).sameKey (.string x) = decide (y = x) := by
  by_cases h : y = x
  · subst h
    rw [WideAt.sameKey_self (show WideAt.IsKeyLit (.string y) from trivial)]
    simp
  · rw [sameKey_ne (lit_ne h)]
    simp [h]
theorem invK (key : Value) (kl : Lit) (h : keyOf Tryd.prog 9 key = some kl) : ∃ x : Bs, key = encStr x := by
  obtain ⟨x, hx, _⟩ := Maps.keyOf_str Tryd.underlying9 h
  exact ⟨x, hx⟩
theorem invV (v : Value) (y : DataW Unit × List MemPlace) (h : unitElem (H := Unit) v = some y) : ∃ c : Unit, v = (fun _ : Unit => Value.agg #[]) c := ⟨(), (unitElem_inv h).1⟩
theorem zero60 (w : World) : (zeroValue 60).run Tryd.prog w = .ok (.agg #[]) w := by kernel_rfl
/-- What is left of a set while what another has not is taken away. -/
def Kp (D : DataW Unit) (left : Lit → Bool) (u v : List Bs) : Prop := ∀ x : Bs, Maps.has D (.string x) = true ↔ x ∈ u ∧ (x ∈ v ∨ left (.string x) = true)
theorem Kp.start {D : DataW Unit} {u : List Bs} (v : List Bs) (h : ∀ x : Bs, Maps.has D (.string x) = true ↔ x ∈ u) : Kp D (Maps.has D) u v := fun x => by
  rw [h x]
  exact ⟨fun q => ⟨q, .inr q⟩, fun q => q.1⟩
theorem Kp.stays {D : DataW Unit} {left : Lit → Bool} {u v : List Bs} (h : Kp D left u v) {x : Bs} (hx : x ∈ v) : Kp D (fun z => left z && !z.sameKey (.string x)) u v := fun y => by
  rw [h y]
  simp only [same_str]
  by_cases e : y = x
  · subst e; simp [hx]
  · simp [e]
theorem Kp.gone {D : DataW Unit} {left : Lit → Bool} {u v : List Bs} (h : Kp D left u v) {x : Bs} (hx : x ∉ v) : Kp (D.del (.string x)) (fun z => left z && !z.sameKey (.string x)) u v := fun y => by
  simp only [same_str]
  by_cases e : y = x
  · subst e; rw [has_del_same]; simp [hx]
  · rw [has_del_other (lit_ne e), h y]; simp [e]
theorem Only.turned {w w' : World} {b : Nat} (h : w.mapTurned w' b) : Only (fun k => k = b) w w' := (Only.of_grown h.grown).mono fun _ _ e => (Option.some.inj e).symm
set_option maxHeartbeats 8000000 in
set_option maxRecDepth 8000 in
theorem keep_any (b m b2 m2 : Nat) (u v : List Bs) (w : World) (hs : SetAt w b m u) (hs2 : SetAt w b2 m2 v) (hne : b2 ≠ b) :
    Calls Tryd.prog 43 #[.map (some b), .map (some b2)] w fun e w' => e = .returned (.tuple #[]) ∧ SetAt w' b m (u.filter fun x => v.contains x) ∧ Only (fun k => k = b) w w' := by
  have hlt2 := hs2.lt
  have hltb := hs.lt
  have HS2 := hide hs2
  obtain ⟨D, hown, hhas⟩ := hs
  have HH := hide hhas
  clear hhas hs2
  go_enter Tryd.func43, Tryd.ntmps43
  go_wp2_with (first | (at_range; refine wpList_range_own _ rfl _ 44 rfl 9 60 law9 Tryd.underlying44 unitElem b m D rfl hown ?_; intro w0 hrg0 hg0 hs0; have HG0 := hide hg0; have HZ0 := hide hs0; clear hg0 hs0))
  go_frame
  go_loopw [4] (fun _ wr => ∃ (left : Lit → Bool) (cnt : Nat) (D' : DataW Unit), wr.ranges Tryd.prog 9 (unitElem (H := Unit)) b w.heap.size m D' left cnt ∧ Kp D' left u v ∧ Only (fun k => k = b) w wr) (fun _ wr => wr.rangeLeft b w.heap.size)
  case atStart => exact ⟨_, _, _, hrg0, Kp.start v (unhide HH), (Only.of_grown (unhide HG0)).mono (fun _ _ e => by cases e)⟩
  case round =>
    obtain ⟨left, cnt, D', hrg, hkp, honly⟩ := hrel
    have HK := hide hkp
    have HO := hide honly
    clear hkp honly hrg0
    go_wp2_with (first | (at_next; refine wpList_next_ranges _ rfl _ rfl 9 law9 unitElem encStr (fun _ : Unit => Value.agg #[]) invK invV b w.heap.size m _ _ _ rfl hrg ?_ ?_))
    · intro _ hl0
      have HL := hide hl0
      have HR := hide hrg
      clear hl0 hrg
      go_wp2
      refine bodyPost_end (results_none rfl _ _ _) rfl ?_
      refine ⟨rfl, ⟨D', (unhide HR).owns, fun x => ?_⟩, unhide HO⟩
      rw [unhide HK x, unhide HL]
      simp
    · intro x c kl yd w1 cnt1 hkey hlk hv hat hrg1 hlt hg1 hs1 hen
      obtain ⟨x', ex, rfl, hxl⟩ := Maps.keyOf_str Tryd.underlying9 hkey
      obtain rfl : x = x' := encStr_inj ex
      have ho1 := (unhide HO).trans (Only.of_grown hg1) (fun k hk e => by have := Option.some.inj e; omega)
      obtain ⟨D2, hown2, hh2⟩ := (unhide HS2).only ho1 (fun e => hne e)
      have HO1 := hide ho1
      have hle := hrg.left_eq
      have HLE := hide hle
      have HR1 := hide hrg1
      have HLT := hide hlt
      clear hs1 hg1 ho1 hle hat hv hlk hrg1 hlt
      by_cases hx : x ∈ v
      · have hh : Maps.has D2 (.string x) = true := (hh2 x).2 hx
        have HK2 := hide ((unhide HK).stays hx)
        clear hh2 hx HK hrg hown
        go_wp2_with (first | (at_lookup; refine wpList_lookup_own_unit _ rfl _ _ 44 rfl 9 60 law9 Tryd.underlying44 (zero60 _) b2 m2 D2 rfl hown2 _ _ rfl hkey ?_))
        refine ⟨⟨_, _, _, (unhide HR1).alloc _, unhide HK2, (unhide HO1).more _⟩, ?_⟩
        rw [((unhide HR1).alloc _).left_eq, unhide HLE]
        exact unhide HLT
      · have hh : Maps.has D2 (.string x) = false := by
          rw [Bool.eq_false_iff]
          exact fun q => hx ((hh2 x).1 q)
        have HK2 := hide ((unhide HK).gone hx)
        clear hh2 hx HK hrg hown
        go_wp2_with (first
          | (at_lookup; refine wpList_lookup_own_unit _ rfl _ _ 44 rfl 9 60 law9 Tryd.underlying44 (zero60 _) b2 m2 D2 rfl hown2 _ _ rfl hkey ?_)
          | (at_delete; refine wpList_delete_ranges _ rfl _ _ 44 9 rfl 60 law9 Tryd.underlying44 unitElem b w.heap.size m _ _ _ rfl ((unhide HR1).alloc _) _ _ rfl hkey ?_; intro w2 cnt2 hrg2 hle hturn; rw [strike_twice] at hrg2; have HR2 := hide hrg2; have HT2 := hide hturn; clear hrg2 hturn; go_frame))
        refine ⟨⟨_, _, _, unhide HR2, unhide HK2, ((unhide HO1).more _).trans (Only.turned (unhide HT2)) (fun _ _ q => q)⟩, ?_⟩
        rw [(unhide HR2).left_eq, unhide HLE]
        have := unhide HLT
        omega
/-- What is left of a set while what another has is taken away. -/
def Dp (D : DataW Unit) (left : Lit → Bool) (u v : List Bs) : Prop := ∀ x : Bs, Maps.has D (.string x) = true ↔ x ∈ u ∧ (x ∈ v → left (.string x) = true)
set_option maxHeartbeats 8000000 in
set_option maxRecDepth 8000 in
theorem drop_any (b m b2 m2 : Nat) (u v : List Bs) (w : World) (hs : SetAt w b m u) (hs2 : SetAt w b2 m2 v) (hne : b2 ≠ b) :
    Calls Tryd.prog 45 #[.map (some b), .map (some b2)] w fun e w' => e = .returned (.tuple #[]) ∧ SetAt w' b m (u.filter fun x => !v.contains x) ∧ Only (fun k => k = b) w w' := by
  have hlt2 := hs2.lt
  have hltb := hs.lt
  obtain ⟨D, hown, hhas⟩ := hs
  obtain ⟨D2, hown2, hhas2⟩ := hs2
  have HW := hide hown
  have HH := hide hhas
  have HH2 := hide hhas2
  clear hhas hhas2 hown
  go_enter Tryd.func45, Tryd.ntmps45
  go_wp2_with (first | (at_range; refine wpList_range_own _ rfl _ 44 rfl 9 60 law9 Tryd.underlying44 unitElem b2 m2 D2 rfl hown2 ?_; intro w0 hrg0 hg0 hs0; have HG0 := hide hg0; have HZ0 := hide hs0; clear hg0 hs0))
  go_frame
  go_loopw [4] (fun _ wr => ∃ (left : Lit → Bool) (cnt : Nat) (D' : DataW Unit), wr.ranges Tryd.prog 9 (unitElem (H := Unit)) b2 w.heap.size m2 D2 left cnt ∧ wr.ownsMap Tryd.prog 9 (unitElem (H := Unit)) b m D' ∧ Dp D' left u v ∧ Only (fun k => k = b) w wr) (fun _ wr => wr.rangeLeft b2 w.heap.size)
  case atStart => exact ⟨_, _, _, hrg0, (unhide HW).kept (unhide HG0) (by simp), fun x => by rw [unhide HH x]; exact ⟨fun q => ⟨q, fun q2 => (unhide HH2 x).2 q2⟩, fun q => q.1⟩, (Only.of_grown (unhide HG0)).mono (fun _ _ e => by cases e)⟩
  case round =>
    obtain ⟨left, cnt, D', hrg, hown1, hdp, honly⟩ := hrel
    have HK := hide hdp
    have HO := hide honly
    have HW1 := hide hown1
    clear hdp honly hrg0 HW HH hown1
    go_wp2_with (first | (at_next; refine wpList_next_ranges _ rfl _ rfl 9 law9 unitElem encStr (fun _ : Unit => Value.agg #[]) invK invV b2 w.heap.size m2 _ _ _ rfl hrg ?_ ?_))
    · intro _ hl0
      have HL := hide hl0
      have HR := hide hrg
      clear hl0 hrg
      go_wp2
      refine bodyPost_end (results_none rfl _ _ _) rfl ?_
      refine ⟨rfl, ⟨D', unhide HW1, fun x => ?_⟩, unhide HO⟩
      rw [unhide HK x, unhide HL]
      simp
    · intro x c kl yd w1 cnt1 hkey hlk hv hat hrg1 hlt hg1 hs1 hen
      obtain ⟨x', ex, rfl, hxl⟩ := Maps.keyOf_str Tryd.underlying9 hkey
      obtain rfl : x = x' := encStr_inj ex
      have HX := hide ((unhide HH2 x).1 (has_true_of_atKey hat))
      have HO1 := hide ((unhide HO).trans (Only.of_grown hg1) (fun k hk e => by have := Option.some.inj e; omega))
      have hown3 := (unhide HW1).kept hg1 (fun e => by have := Option.some.inj e; omega)
      have HLE := hide hrg.left_eq
      have HR1 := hide hrg1
      have HLT := hide hlt
      clear hs1 hg1 hat hv hlk hrg1 hlt hrg hown2
      go_wp2_with (first
          | (at_delete; refine wpList_delete_own _ rfl _ _ 44 9 rfl 60 law9 Tryd.underlying44 unitElem b m D' rfl hown3 _ _ rfl hkey ?_; intro w2 hown4 hturn; have HW2 := hide hown4; have HT2 := hide hturn; clear hown4 hturn; go_frame))
      have HR2 := hide ((unhide HR1).kept (unhide HT2).grown (by simp; omega) (by simp; omega))
      refine ⟨⟨_, _, _, unhide HR2, unhide HW2, fun y => ?_, (unhide HO1).trans (Only.turned (unhide HT2)) (fun _ _ q => q)⟩, ?_⟩
      · simp only [same_str]
        by_cases e : y = x
        · subst e; rw [has_del_same]; simp [unhide HX]
        · rw [has_del_other (lit_ne e), unhide HK y]; simp [e]
      · rw [(unhide HR2).left_eq, unhide HLE]
        exact unhide HLT
end Go.Proofs.YtknlafgaagimjaaDoor
