import Derived.Test.YtpidmpefodnffaaGreatDoorZprc
import Derived.Test.YtpidmpefodnffaaGreatDoorPrd
namespace Go.Proofs.YtpidmpefodnffaaGreatDoor
open Go.RowKit
set_option maxHeartbeats 4000000
set_option maxRecDepth 8000
/-- The entry that a token has. -/
def ofT (id fa ge : Int) (ha : Bs) (mi : Int) (sp : Bool) (at9 ne : Int) (se : Bs) : (Bs × Bs) × Nat := if tokOK id fa ge ha mi sp at9 ne se then ((cat (lx (memKl fa ge id)) 3, cat (lx (memVl fa ge id)) 1), 0) else (([], []), 140)
theorem tok_mem {id fa ge : Int} {ha : Bs} {mi : Int} {sp : Bool} {at9 ne : Int} {se : Bs} (h : tokOK id fa ge ha mi sp at9 ne se = true) : memOK fa ge id = true := by
  simp only [tokOK, Bool.and_eq_true] at h
  simp only [memOK, Bool.and_eq_true]
  exact ⟨h.2.1, h.2.2.1, h.1⟩
theorem OfToken_any (id fa ge : Int) (ha : Bs) (mi : Int) (sp : Bool) (at9 ne : Int) (se : Bs) (w : World) : Calls Tryz.prog 36 #[.agg #[I id, I fa, I ge, S ha, I mi, .bool sp, I at9, I ne, S se]] w fun e w' => e = .returned (.tuple #[.agg #[S (ofT id fa ge ha mi sp at9 ne se).1.1, S (ofT id fa ge ha mi sp at9 ne se).1.2], I (ofT id fa ge ha mi sp at9 ne se).2]) ∧ Below w.heap.size w w' := by
  have hb0 : Below w.heap.size w ((w.alloc (.cells #[I id, I fa, I ge, S ha, I mi, .bool sp, I at9, I ne, S se] 58)).alloc (.cells #[S [], S []] 30)) := ((Below.refl _ w).alloc (Nat.le_refl _) _).alloc (by simp) _
  have hT : ((w.alloc (.cells #[I id, I fa, I ge, S ha, I mi, .bool sp, I at9, I ne, S se] 58)).alloc (.cells #[S [], S []] 30)).heap[w.heap.size]? = some (.cells #[I id, I fa, I ge, S ha, I mi, .bool sp, I at9, I ne, S se] 58 (0, 0)) := by
    rw [heap_alloc_old _ _ (by simp)]; exact heap_alloc_new _ _
  have hR : ((w.alloc (.cells #[I id, I fa, I ge, S ha, I mi, .bool sp, I at9, I ne, S se] 58)).alloc (.cells #[S [], S []] 30)).heap[w.heap.size + 1]? = some (.cells #[S [], S []] 30 (0, 0)) := by
    have e := heap_alloc_new (w.alloc (.cells #[I id, I fa, I ge, S ha, I mi, .bool sp, I at9, I ne, S se] 58)) (.cells #[S [], S []] 30)
    simpa using e
  have HRt := hide (rightToken_any id fa ge ha mi sp at9 ne se ((w.alloc (.cells #[I id, I fa, I ge, S ha, I mi, .bool sp, I at9, I ne, S se] 58)).alloc (.cells #[S [], S []] 30)))
  generalize hW1 : ((w.alloc (.cells #[I id, I fa, I ge, S ha, I mi, .bool sp, I at9, I ne, S se] 58)).alloc (.cells #[S [], S []] 30)) = W1 at *
  have c0 : W1.cell? ⟨w.heap.size, 0, none⟩ = some (I id) := by unfold World.cell?; rw [hT]; rfl
  have c1 : W1.cell? ⟨w.heap.size, 1, none⟩ = some (I fa) := by unfold World.cell?; rw [hT]; rfl
  have c2 : W1.cell? ⟨w.heap.size, 2, none⟩ = some (I ge) := by unfold World.cell?; rw [hT]; rfl
  have c3 : W1.cell? ⟨w.heap.size, 3, none⟩ = some (S ha) := by unfold World.cell?; rw [hT]; rfl
  have c4 : W1.cell? ⟨w.heap.size, 4, none⟩ = some (I mi) := by unfold World.cell?; rw [hT]; rfl
  have c5 : W1.cell? ⟨w.heap.size, 5, none⟩ = some (.bool sp) := by unfold World.cell?; rw [hT]; rfl
  have c6 : W1.cell? ⟨w.heap.size, 6, none⟩ = some (I at9) := by unfold World.cell?; rw [hT]; rfl
  have c7 : W1.cell? ⟨w.heap.size, 7, none⟩ = some (I ne) := by unfold World.cell?; rw [hT]; rfl
  have c8 : W1.cell? ⟨w.heap.size, 8, none⟩ = some (S se) := by unfold World.cell?; rw [hT]; rfl
  have HT := hide hT
  have HR := hide hR
  have HB := hide hb0
  clear hT hR hb0
  go_enter Tryz.func36, Tryz.ntmps36
  go_wp2_with fail
  refine (unhide HRt).mono ?_
  rintro e w2 ⟨rfl, hw2⟩
  have HB2 := hide ((unhide HB).trans (hw2.mono (unhide HB).size))
  have hT2 := (hw2.block _ (lt_of_row (unhide HT))).trans (unhide HT)
  have hR2 := (hw2.block _ (lt_of_row (unhide HR))).trans (unhide HR)
  have d0 : w2.cell? ⟨w.heap.size, 0, none⟩ = some (I id) := by unfold World.cell?; rw [hT2]; rfl
  have d1 : w2.cell? ⟨w.heap.size, 1, none⟩ = some (I fa) := by unfold World.cell?; rw [hT2]; rfl
  have d2 : w2.cell? ⟨w.heap.size, 2, none⟩ = some (I ge) := by unfold World.cell?; rw [hT2]; rfl
  have HR2 := hide hR2
  clear hw2 hT2 hR2 HRt HB HT HR c0 c1 c2 c3 c4 c5 c6 c7 c8 hW1
  cases hok : tokOK id fa ge ha mi sp at9 ne se
  · have HP : Hid (ofT id fa ge ha mi sp at9 ne se = (([], []), 140)) := hide (by simp [ofT, hok])
    go_wp2_with (refine wp_st30 rfl (.tmp 2) (.tmp 7) rfl (w.heap.size + 1) (by rfl) [] [] (by rfl) #[S [], S []] rfl (unhide HR2) ?_)
    refine out2c (T := 30) (n := 2) (p := 2) (q := 3) (cs := #[S [], S []]) (fun _ => by kernel_rfl) (fun _ => by kernel_rfl) (Z := w.heap.size + 1) (by rfl) (by rfl) (by rfl) (by rfl) (setRow_row (unhide HR2)) (by rfl) ?_
    rw [unhide HP]
    exact ⟨rfl, (setRow_Only w2 (w.heap.size + 1) #[S [], S []]).below (unhide HB2) (unhide HB2).size (fun k e => by omega)⟩
  · have HP : Hid (ofT id fa ge ha mi sp at9 ne se = ((cat (lx (memKl fa ge id)) 3, cat (lx (memVl fa ge id)) 1), 0)) := hide (by simp [ofT, hok])
    have hb3 : Below w2.heap.size w2 (w2.alloc (.cells #[I fa, I ge, I id] 139)) := (Below.refl _ _).alloc (Nat.le_refl _) _
    have HLy := hide (lp99 fa ge id w2.heap.size (w2.alloc (.cells #[I fa, I ge, I id] 139)) (heap_alloc_new _ _) (tok_mem hok))
    have HB3 := hide ((unhide HB2).trans (hb3.mono (unhide HB2).size))
    have HR3 := hide ((hb3.block _ (lt_of_row (unhide HR2))).trans (unhide HR2))
    clear hb3 HB2 HR2 hok
    generalize cat (lx (memKl fa ge id)) 3 = kk at *
    generalize cat (lx (memVl fa ge id)) 1 = vv at *
    go_wp2_with fail
    refine (unhide HLy).mono ?_
    rintro e w4 ⟨c, rfl, hb4, hpr⟩
    have HPr := hide (hpr w4 (Below.refl _ _))
    have HB4 := hide ((unhide HB3).trans (hb4.mono (unhide HB3).size))
    have HR4 := hide ((hb4.block _ (lt_of_row (unhide HR3))).trans (unhide HR3))
    clear hb4 hpr HLy HB3 HR3 d0 d1 d2
    go_wp2_with fail
    refine (unhide HPr).mono ?_
    rintro e w5 ⟨rfl, hw5⟩
    have HB5 := hide ((unhide HB4).trans (hw5.mono (unhide HB4).size))
    have HR5 := hide ((hw5.block _ (lt_of_row (unhide HR4))).trans (unhide HR4))
    clear hw5 HPr HB4 HR4
    go_wp2_with (refine wp_st30 rfl (.tmp 2) (.tmp 17) rfl (w.heap.size + 1) (by rfl) kk vv (by rfl) #[S [], S []] rfl (unhide HR5) ?_)
    refine out2c (T := 30) (n := 2) (p := 2) (q := 3) (cs := #[S kk, S vv]) (fun _ => by kernel_rfl) (fun _ => by kernel_rfl) (Z := w.heap.size + 1) (by rfl) (by rfl) (by rfl) (by rfl) (setRow_row (unhide HR5)) (by rfl) ?_
    rw [unhide HP]
    exact ⟨rfl, (setRow_Only w5 (w.heap.size + 1) #[S kk, S vv]).below (unhide HB5) (unhide HB5).size (fun k e => by omega)⟩
end Go.Proofs.YtpidmpefodnffaaGreatDoor
