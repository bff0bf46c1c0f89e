import Derived.Test.YtpidmpefodnffaaGreatDoorPaa
namespace Go.Proofs.YtpidmpefodnffaaGreatDoor
open Go.RowKit
set_option maxHeartbeats 4000000
set_option maxRecDepth 8000
theorem Print38 (nu : Int) (se : Bs) (fr : Int) (un : Int) (w : World)  : Calls Tryz.prog 38 #[.agg #[I nu, S se, I fr, I un]] w fun e w' => e = .returned (.tuple #[.agg #[S (keyP nu se fr un).1.1, S (keyP nu se fr un).1.2], I (keyP nu se fr un).2]) ∧ Below w.heap.size w w' := by
  have hb0 : Below w.heap.size w ((w.alloc (.cells #[I nu, S se, I fr, I un] 60)).alloc (.cells #[S [], S []] 30)) := ((Below.refl _ w).alloc (Nat.le_refl _) _).alloc (by simp) _
  have hT : ((w.alloc (.cells #[I nu, S se, I fr, I un] 60)).alloc (.cells #[S [], S []] 30)).heap[w.heap.size]? = some (.cells #[I nu, S se, I fr, I un] 60 (0, 0)) := by
    rw [heap_alloc_old _ _ (by simp)]; exact heap_alloc_new _ _
  have hR : ((w.alloc (.cells #[I nu, S se, I fr, I un] 60)).alloc (.cells #[S [], S []] 30)).heap[w.heap.size + 1]? = some (.cells #[S [], S []] 30 (0, 0)) := by
    have e := heap_alloc_new (w.alloc (.cells #[I nu, S se, I fr, I un] 60)) (.cells #[S [], S []] 30)
    simpa using e
  have HPr := hide (pr101 nu se fr un ((w.alloc (.cells #[I nu, S se, I fr, I un] 60)).alloc (.cells #[S [], S []] 30)) )
  have c0 : ((w.alloc (.cells #[I nu, S se, I fr, I un] 60)).alloc (.cells #[S [], S []] 30)).cell? ⟨w.heap.size, 0, none⟩ = some (I nu) := cellr hT rfl
  have c1 : ((w.alloc (.cells #[I nu, S se, I fr, I un] 60)).alloc (.cells #[S [], S []] 30)).cell? ⟨w.heap.size, 1, none⟩ = some (S se) := cellr hT rfl
  have c2 : ((w.alloc (.cells #[I nu, S se, I fr, I un] 60)).alloc (.cells #[S [], S []] 30)).cell? ⟨w.heap.size, 2, none⟩ = some (I fr) := cellr hT rfl
  have c3 : ((w.alloc (.cells #[I nu, S se, I fr, I un] 60)).alloc (.cells #[S [], S []] 30)).cell? ⟨w.heap.size, 3, none⟩ = some (I un) := cellr hT rfl
  generalize hW1 : ((w.alloc (.cells #[I nu, S se, I fr, I un] 60)).alloc (.cells #[S [], S []] 30)) = W1 at *
  have HR := hide hR
  have HB := hide hb0
  clear hT hR hb0
  generalize keyP nu se fr un = Q at *
  obtain ⟨⟨q1, q2⟩, q3⟩ := Q
  go_enter Tryz.func38, Tryz.ntmps38
  go_wp2_with fail
  refine (unhide HPr).mono ?_
  rintro e w2 ⟨rfl, hw2⟩
  have HB2 := hide ((unhide HB).trans (hw2.mono (unhide HB).size))
  have HR2 := hide ((hw2.block _ (lt_of_row (unhide HR))).trans (unhide HR))
  clear hw2 HPr HB HR c0 c1 c2 c3 hW1
  go_wp2_with (refine wp_st30 rfl (.tmp 2) (.tmp 6) rfl (w.heap.size + 1) (by rfl) q1 q2 (by rfl) #[S [], S []] rfl (unhide HR2) ?_)
  refine out2c (T := 30) (n := 2) (p := 2) (q := 3) (cs := #[S q1, S q2]) (fun _ => by kernel_rfl) (fun _ => by kernel_rfl) (Z := w.heap.size + 1) (by rfl) (by rfl) (by rfl) (by rfl) (setRow_row (unhide HR2)) (by rfl) ?_
  exact ⟨rfl, (setRow_Only w2 (w.heap.size + 1) #[S q1, S q2]).below (unhide HB2) (unhide HB2).size (fun k e => by omega)⟩
theorem Parse40 (k v : Bs) (w : World) (hk : k.length ≤ 9223372036854775807) (hv : v.length ≤ 9223372036854775807) : Calls Tryz.prog 40 #[.agg #[S k, S v]] w fun e w' => Below w.heap.size w w' ∧ ((keyG k v = true ∧ e = .returned (.tuple #[.agg #[I (key_nu k), S (key_se v), I (key_fr v), I (key_un v)], I 0])) ∨ (keyG k v = false ∧ e = .returned (.tuple #[.agg #[I 0, S [], I 0, I 0], I 141]))) := by
  have hb0 : Below w.heap.size w ((w.alloc (.cells #[S k, S v] 30)).alloc (.cells #[I 0, S [], I 0, I 0] 60)) := ((Below.refl _ w).alloc (Nat.le_refl _) _).alloc (by simp) _
  have hT : ((w.alloc (.cells #[S k, S v] 30)).alloc (.cells #[I 0, S [], I 0, I 0] 60)).heap[w.heap.size]? = some (.cells #[S k, S v] 30 (0, 0)) := by
    rw [heap_alloc_old _ _ (by simp)]; exact heap_alloc_new _ _
  have hR : ((w.alloc (.cells #[S k, S v] 30)).alloc (.cells #[I 0, S [], I 0, I 0] 60)).heap[w.heap.size + 1]? = some (.cells #[I 0, S [], I 0, I 0] 60 (0, 0)) := by
    have e := heap_alloc_new (w.alloc (.cells #[S k, S v] 30)) (.cells #[I 0, S [], I 0, I 0] 60)
    simpa using e
  have hsz : ((w.alloc (.cells #[S k, S v] 30)).alloc (.cells #[I 0, S [], I 0, I 0] 60)).heap.size = w.heap.size + 2 := by simp
  have HPr := hide (pa105 k v ((w.alloc (.cells #[S k, S v] 30)).alloc (.cells #[I 0, S [], I 0, I 0] 60)) hk hv)
  have c0 : ((w.alloc (.cells #[S k, S v] 30)).alloc (.cells #[I 0, S [], I 0, I 0] 60)).cell? ⟨w.heap.size, 0, none⟩ = some (S k) := cellr hT rfl
  have c1 : ((w.alloc (.cells #[S k, S v] 30)).alloc (.cells #[I 0, S [], I 0, I 0] 60)).cell? ⟨w.heap.size, 1, none⟩ = some (S v) := cellr hT rfl
  generalize hW1 : ((w.alloc (.cells #[S k, S v] 30)).alloc (.cells #[I 0, S [], I 0, I 0] 60)) = W1 at *
  have HR := hide hR
  have HB := hide hb0
  have HS := hide hsz
  clear hT hR hb0 hk hv hsz
  generalize keyG k v = GG at *
  go_enter Tryz.func40, Tryz.ntmps40
  go_wp2_with fail
  refine (unhide HPr).mono ?_
  rintro e w2 ⟨hw2, hor⟩
  have HB2 := hide ((unhide HB).trans (hw2.mono (unhide HB).size))
  have HR2 := hide ((hw2.block _ (lt_of_row (unhide HR))).trans (unhide HR))
  clear hw2 HPr HB HR c0 c1 hW1
  rcases hor with ⟨hg, rfl⟩ | ⟨hg, rfl⟩
  · have HGF := hide hg
    clear hg
    go_wp2_with (refine wp_stT (ty := 60) (n := 4) (by kernel_rfl) rfl (.tmp 2) (.tmp 6) rfl (w.heap.size + 1) (by rfl) #[I (key_nu k), S (key_se v), I (key_fr v), I (key_un v)] rfl (by simp [Value.oneCell']) (by rfl) #[I 0, S [], I 0, I 0] rfl (unhide HR2) ?_)
    refine out2c (T := 60) (n := 4) (p := 2) (q := 3) (cs := #[I (key_nu k), S (key_se v), I (key_fr v), I (key_un v)]) (fun _ => by kernel_rfl) (fun _ => by kernel_rfl) (Z := w.heap.size + 1) (by rfl) (by rfl) (by rfl) (by rfl) (setRow_row (unhide HR2)) (by rfl) ?_
    refine ⟨(setRow_Only w2 (w.heap.size + 1) #[I (key_nu k), S (key_se v), I (key_fr v), I (key_un v)]).below (unhide HB2) (unhide HB2).size (fun k e => by omega), .inl ⟨unhide HGF, rfl⟩⟩
  · have HGF := hide hg
    clear hg
    go_wp2_with (refine wp_stT (ty := 60) (n := 4) (by kernel_rfl) rfl (.tmp 2) (.tmp 6) rfl (w.heap.size + 1) (by rfl) #[I 0, S [], I 0, I 0] rfl (by simp [Value.oneCell']) (by rfl) #[I 0, S [], I 0, I 0] rfl (unhide HR2) ?_)
    refine out2c (T := 60) (n := 4) (p := 2) (q := 3) (cs := #[I 0, S [], I 0, I 0]) (fun _ => by kernel_rfl) (fun _ => by kernel_rfl) (Z := w.heap.size + 1) (by rfl) (by rfl) (by rfl) (by rfl) (setRow_row (unhide HR2)) (by rfl) ?_
    refine ⟨(setRow_Only w2 (w.heap.size + 1) #[I 0, S [], I 0, I 0]).below (unhide HB2) (unhide HB2).size (fun k e => by omega), .inr ⟨unhide HGF, rfl⟩⟩
end Go.Proofs.YtpidmpefodnffaaGreatDoor
