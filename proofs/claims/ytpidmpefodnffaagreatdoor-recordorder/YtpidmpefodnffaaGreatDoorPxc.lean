import Derived.Test.YtpidmpefodnffaaGreatDoorPrd
import Derived.Test.YtpidmpefodnffaaGreatDoorZfdj
import Derived.Test.YtpidmpefodnffaaGreatDoorZfde
namespace Go.Proofs.YtpidmpefodnffaaGreatDoor
open Go.RowKit
set_option maxHeartbeats 4000000
set_option maxRecDepth 8000
theorem Print33 (id : Int) (fa : Int) (ge : Int) (ha : Bs) (mi : Int) (sp : Bool) (at9 : Int) (ne : Int) (se : Bs) (w : World)  : Calls Tryz.prog 33 #[.agg #[I id, I fa, I ge, S ha, I mi, .bool sp, I at9, I ne, S se]] w fun e w' => e = .returned (.tuple #[.agg #[S (tokP id fa ge ha mi sp at9 ne se).1.1, S (tokP id fa ge ha mi sp at9 ne se).1.2], I (tokP id fa ge ha mi sp at9 ne se).2]) ∧ Below w.heap.size w w' := by
  have hb0 : Below w.heap.size w ((w.alloc (.cells #[I id, I fa, I ge, S ha, I mi, .bool sp, I at9, I ne, S se] 58)).alloc (.cells #[S [], S []] 30)) := ((Below.refl _ w).alloc (Nat.le_refl _) _).alloc (by simp) _
  have hT : ((w.alloc (.cells #[I id, I fa, I ge, S ha, I mi, .bool sp, I at9, I ne, S se] 58)).alloc (.cells #[S [], S []] 30)).heap[w.heap.size]? = some (.cells #[I id, I fa, I ge, S ha, I mi, .bool sp, I at9, I ne, S se] 58 (0, 0)) := by
    rw [heap_alloc_old _ _ (by simp)]; exact heap_alloc_new _ _
  have hR : ((w.alloc (.cells #[I id, I fa, I ge, S ha, I mi, .bool sp, I at9, I ne, S se] 58)).alloc (.cells #[S [], S []] 30)).heap[w.heap.size + 1]? = some (.cells #[S [], S []] 30 (0, 0)) := by
    have e := heap_alloc_new (w.alloc (.cells #[I id, I fa, I ge, S ha, I mi, .bool sp, I at9, I ne, S se] 58)) (.cells #[S [], S []] 30)
    simpa using e
  have HPr := hide (pr94 id fa ge ha mi sp at9 ne se ((w.alloc (.cells #[I id, I fa, I ge, S ha, I mi, .bool sp, I at9, I ne, S se] 58)).alloc (.cells #[S [], S []] 30)) )
  have c0 : ((w.alloc (.cells #[I id, I fa, I ge, S ha, I mi, .bool sp, I at9, I ne, S se] 58)).alloc (.cells #[S [], S []] 30)).cell? ⟨w.heap.size, 0, none⟩ = some (I id) := cellr hT rfl
  have c1 : ((w.alloc (.cells #[I id, I fa, I ge, S ha, I mi, .bool sp, I at9, I ne, S se] 58)).alloc (.cells #[S [], S []] 30)).cell? ⟨w.heap.size, 1, none⟩ = some (I fa) := cellr hT rfl
  have c2 : ((w.alloc (.cells #[I id, I fa, I ge, S ha, I mi, .bool sp, I at9, I ne, S se] 58)).alloc (.cells #[S [], S []] 30)).cell? ⟨w.heap.size, 2, none⟩ = some (I ge) := cellr hT rfl
  have c3 : ((w.alloc (.cells #[I id, I fa, I ge, S ha, I mi, .bool sp, I at9, I ne, S se] 58)).alloc (.cells #[S [], S []] 30)).cell? ⟨w.heap.size, 3, none⟩ = some (S ha) := cellr hT rfl
  have c4 : ((w.alloc (.cells #[I id, I fa, I ge, S ha, I mi, .bool sp, I at9, I ne, S se] 58)).alloc (.cells #[S [], S []] 30)).cell? ⟨w.heap.size, 4, none⟩ = some (I mi) := cellr hT rfl
  have c5 : ((w.alloc (.cells #[I id, I fa, I ge, S ha, I mi, .bool sp, I at9, I ne, S se] 58)).alloc (.cells #[S [], S []] 30)).cell? ⟨w.heap.size, 5, none⟩ = some (.bool sp) := cellr hT rfl
  have c6 : ((w.alloc (.cells #[I id, I fa, I ge, S ha, I mi, .bool sp, I at9, I ne, S se] 58)).alloc (.cells #[S [], S []] 30)).cell? ⟨w.heap.size, 6, none⟩ = some (I at9) := cellr hT rfl
  have c7 : ((w.alloc (.cells #[I id, I fa, I ge, S ha, I mi, .bool sp, I at9, I ne, S se] 58)).alloc (.cells #[S [], S []] 30)).cell? ⟨w.heap.size, 7, none⟩ = some (I ne) := cellr hT rfl
  have c8 : ((w.alloc (.cells #[I id, I fa, I ge, S ha, I mi, .bool sp, I at9, I ne, S se] 58)).alloc (.cells #[S [], S []] 30)).cell? ⟨w.heap.size, 8, none⟩ = some (S se) := cellr hT rfl
  generalize hW1 : ((w.alloc (.cells #[I id, I fa, I ge, S ha, I mi, .bool sp, I at9, I ne, S se] 58)).alloc (.cells #[S [], S []] 30)) = W1 at *
  have HR := hide hR
  have HB := hide hb0
  clear hT hR hb0
  generalize tokP id fa ge ha mi sp at9 ne se = Q at *
  obtain ⟨⟨q1, q2⟩, q3⟩ := Q
  go_enter Tryz.func33, Tryz.ntmps33
  go_wp2_with fail
  refine (unhide HPr).mono ?_
  rintro e w2 ⟨rfl, hw2⟩
  have HB2 := hide ((unhide HB).trans (hw2.mono (unhide HB).size))
  have HR2 := hide ((hw2.block _ (lt_of_row (unhide HR))).trans (unhide HR))
  clear hw2 HPr HB HR c0 c1 c2 c3 c4 c5 c6 c7 c8 hW1
  go_wp2_with (refine wp_st30 rfl (.tmp 2) (.tmp 6) rfl (w.heap.size + 1) (by rfl) q1 q2 (by rfl) #[S [], S []] rfl (unhide HR2) ?_)
  refine out2c (T := 30) (n := 2) (p := 2) (q := 3) (cs := #[S q1, S q2]) (fun _ => by kernel_rfl) (fun _ => by kernel_rfl) (Z := w.heap.size + 1) (by rfl) (by rfl) (by rfl) (by rfl) (setRow_row (unhide HR2)) (by rfl) ?_
  exact ⟨rfl, (setRow_Only w2 (w.heap.size + 1) #[S q1, S q2]).below (unhide HB2) (unhide HB2).size (fun k e => by omega)⟩
end Go.Proofs.YtpidmpefodnffaaGreatDoor
