import Derived.Test.YtpidmpefodnffaaGreatDoorPrg
import Derived.Test.YtpidmpefodnffaaGreatDoorZfdj
import Derived.Test.YtpidmpefodnffaaGreatDoorLyf
namespace Go.Proofs.YtpidmpefodnffaaGreatDoor
open Go.RowKit
set_option maxHeartbeats 4000000
set_option maxRecDepth 8000
theorem Print19 (id : Int) (cl : Bs) (su : Bs) (va : Option Addr) (vc : Nat) (sc : List Bs) (cr : Int) (us : Int) (idl : Int) (ab : Int) (gr : Int) (ge : Int) (to : Int) (st : Int) (en : Int) (co : Int) (w : World) (h_cl : cl.length ≤ 9223372036854775807) (h_su : su.length ≤ 9223372036854775807) (hsc : Sts w va sc.length sc) (hsl : sc.length ≤ 140737488355000) (hln : Lns sc) : Calls Tryz.prog 19 #[.agg #[I id, S cl, S su, .slice va sc.length vc, I cr, I us, I idl, I ab, I gr, I ge, I to, I st, I en, I co]] w fun e w' => e = .returned (.tuple #[.agg #[S (famP id cl su sc cr us idl ab gr ge to st en co).1.1, S (famP id cl su sc cr us idl ab gr ge to st en co).1.2], I (famP id cl su sc cr us idl ab gr ge to st en co).2]) ∧ Below w.heap.size w w' := by
  have hb0 : Below w.heap.size w ((w.alloc (.cells #[I id, S cl, S su, .slice va sc.length vc, I cr, I us, I idl, I ab, I gr, I ge, I to, I st, I en, I co] 40)).alloc (.cells #[S [], S []] 30)) := ((Below.refl _ w).alloc (Nat.le_refl _) _).alloc (by simp) _
  have hT : ((w.alloc (.cells #[I id, S cl, S su, .slice va sc.length vc, I cr, I us, I idl, I ab, I gr, I ge, I to, I st, I en, I co] 40)).alloc (.cells #[S [], S []] 30)).heap[w.heap.size]? = some (.cells #[I id, S cl, S su, .slice va sc.length vc, I cr, I us, I idl, I ab, I gr, I ge, I to, I st, I en, I co] 40 (0, 0)) := by
    rw [heap_alloc_old _ _ (by simp)]; exact heap_alloc_new _ _
  have hR : ((w.alloc (.cells #[I id, S cl, S su, .slice va sc.length vc, I cr, I us, I idl, I ab, I gr, I ge, I to, I st, I en, I co] 40)).alloc (.cells #[S [], S []] 30)).heap[w.heap.size + 1]? = some (.cells #[S [], S []] 30 (0, 0)) := by
    have e := heap_alloc_new (w.alloc (.cells #[I id, S cl, S su, .slice va sc.length vc, I cr, I us, I idl, I ab, I gr, I ge, I to, I st, I en, I co] 40)) (.cells #[S [], S []] 30)
    simpa using e
  have HPr := hide (pr72 id cl su va vc sc cr us idl ab gr ge to st en co ((w.alloc (.cells #[I id, S cl, S su, .slice va sc.length vc, I cr, I us, I idl, I ab, I gr, I ge, I to, I st, I en, I co] 40)).alloc (.cells #[S [], S []] 30)) h_cl h_su (Sts.bel hsc hb0) hsl hln)
  have c0 : ((w.alloc (.cells #[I id, S cl, S su, .slice va sc.length vc, I cr, I us, I idl, I ab, I gr, I ge, I to, I st, I en, I co] 40)).alloc (.cells #[S [], S []] 30)).cell? ⟨w.heap.size, 0, none⟩ = some (I id) := cellr hT rfl
  have c1 : ((w.alloc (.cells #[I id, S cl, S su, .slice va sc.length vc, I cr, I us, I idl, I ab, I gr, I ge, I to, I st, I en, I co] 40)).alloc (.cells #[S [], S []] 30)).cell? ⟨w.heap.size, 1, none⟩ = some (S cl) := cellr hT rfl
  have c2 : ((w.alloc (.cells #[I id, S cl, S su, .slice va sc.length vc, I cr, I us, I idl, I ab, I gr, I ge, I to, I st, I en, I co] 40)).alloc (.cells #[S [], S []] 30)).cell? ⟨w.heap.size, 2, none⟩ = some (S su) := cellr hT rfl
  have c3 : ((w.alloc (.cells #[I id, S cl, S su, .slice va sc.length vc, I cr, I us, I idl, I ab, I gr, I ge, I to, I st, I en, I co] 40)).alloc (.cells #[S [], S []] 30)).cell? ⟨w.heap.size, 3, none⟩ = some (.slice va sc.length vc) := cellr hT rfl
  have c4 : ((w.alloc (.cells #[I id, S cl, S su, .slice va sc.length vc, I cr, I us, I idl, I ab, I gr, I ge, I to, I st, I en, I co] 40)).alloc (.cells #[S [], S []] 30)).cell? ⟨w.heap.size, 4, none⟩ = some (I cr) := cellr hT rfl
  have c5 : ((w.alloc (.cells #[I id, S cl, S su, .slice va sc.length vc, I cr, I us, I idl, I ab, I gr, I ge, I to, I st, I en, I co] 40)).alloc (.cells #[S [], S []] 30)).cell? ⟨w.heap.size, 5, none⟩ = some (I us) := cellr hT rfl
  have c6 : ((w.alloc (.cells #[I id, S cl, S su, .slice va sc.length vc, I cr, I us, I idl, I ab, I gr, I ge, I to, I st, I en, I co] 40)).alloc (.cells #[S [], S []] 30)).cell? ⟨w.heap.size, 6, none⟩ = some (I idl) := cellr hT rfl
  have c7 : ((w.alloc (.cells #[I id, S cl, S su, .slice va sc.length vc, I cr, I us, I idl, I ab, I gr, I ge, I to, I st, I en, I co] 40)).alloc (.cells #[S [], S []] 30)).cell? ⟨w.heap.size, 7, none⟩ = some (I ab) := cellr hT rfl
  have c8 : ((w.alloc (.cells #[I id, S cl, S su, .slice va sc.length vc, I cr, I us, I idl, I ab, I gr, I ge, I to, I st, I en, I co] 40)).alloc (.cells #[S [], S []] 30)).cell? ⟨w.heap.size, 8, none⟩ = some (I gr) := cellr hT rfl
  have c9 : ((w.alloc (.cells #[I id, S cl, S su, .slice va sc.length vc, I cr, I us, I idl, I ab, I gr, I ge, I to, I st, I en, I co] 40)).alloc (.cells #[S [], S []] 30)).cell? ⟨w.heap.size, 9, none⟩ = some (I ge) := cellr hT rfl
  have c10 : ((w.alloc (.cells #[I id, S cl, S su, .slice va sc.length vc, I cr, I us, I idl, I ab, I gr, I ge, I to, I st, I en, I co] 40)).alloc (.cells #[S [], S []] 30)).cell? ⟨w.heap.size, 10, none⟩ = some (I to) := cellr hT rfl
  have c11 : ((w.alloc (.cells #[I id, S cl, S su, .slice va sc.length vc, I cr, I us, I idl, I ab, I gr, I ge, I to, I st, I en, I co] 40)).alloc (.cells #[S [], S []] 30)).cell? ⟨w.heap.size, 11, none⟩ = some (I st) := cellr hT rfl
  have c12 : ((w.alloc (.cells #[I id, S cl, S su, .slice va sc.length vc, I cr, I us, I idl, I ab, I gr, I ge, I to, I st, I en, I co] 40)).alloc (.cells #[S [], S []] 30)).cell? ⟨w.heap.size, 12, none⟩ = some (I en) := cellr hT rfl
  have c13 : ((w.alloc (.cells #[I id, S cl, S su, .slice va sc.length vc, I cr, I us, I idl, I ab, I gr, I ge, I to, I st, I en, I co] 40)).alloc (.cells #[S [], S []] 30)).cell? ⟨w.heap.size, 13, none⟩ = some (I co) := cellr hT rfl
  generalize hW1 : ((w.alloc (.cells #[I id, S cl, S su, .slice va sc.length vc, I cr, I us, I idl, I ab, I gr, I ge, I to, I st, I en, I co] 40)).alloc (.cells #[S [], S []] 30)) = W1 at *
  have HR := hide hR
  have HB := hide hb0
  clear hT hR hb0 hsc hsl hln
  generalize famP id cl su sc cr us idl ab gr ge to st en co = Q at *
  obtain ⟨⟨q1, q2⟩, q3⟩ := Q
  go_enter Tryz.func19, Tryz.ntmps19
  go_wp2_with fail
  refine (unhide HPr).mono ?_
  rintro e w2 ⟨rfl, hw2⟩
  have HB2 := hide ((unhide HB).trans (hw2.mono (unhide HB).size))
  have HR2 := hide ((hw2.block _ (lt_of_row (unhide HR))).trans (unhide HR))
  clear hw2 HPr HB HR c0 c1 c2 c3 c4 c5 c6 c7 c8 c9 c10 c11 c12 c13 hW1
  go_wp2_with (refine wp_st30 rfl (.tmp 2) (.tmp 6) rfl (w.heap.size + 1) (by rfl) q1 q2 (by rfl) #[S [], S []] rfl (unhide HR2) ?_)
  refine out2c (T := 30) (n := 2) (p := 2) (q := 3) (cs := #[S q1, S q2]) (fun _ => by kernel_rfl) (fun _ => by kernel_rfl) (Z := w.heap.size + 1) (by rfl) (by rfl) (by rfl) (by rfl) (setRow_row (unhide HR2)) (by rfl) ?_
  exact ⟨rfl, (setRow_Only w2 (w.heap.size + 1) #[S q1, S q2]).below (unhide HB2) (unhide HB2).size (fun k e => by omega)⟩
end Go.Proofs.YtpidmpefodnffaaGreatDoor
