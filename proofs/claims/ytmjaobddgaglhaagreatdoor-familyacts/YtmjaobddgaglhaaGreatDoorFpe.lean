import Derived.Test.YtmjaobddgaglhaaGreatDoorZfpa
import Derived.Test.YtmjaobddgaglhaaGreatDoorZsmc
/- told. -/
namespace Go.Proofs.YtmjaobddgaglhaaGreatDoor
open Go.RowKit Go.Lib
set_option maxHeartbeats 4000000
set_option maxRecDepth 8000
theorem told_same (ac : Bool) (cl su : Bs) (sc : List Bs) (fa iss en ge : Int) (va ua : Option Addr) (vc uc : Nat) (w : World) (h1 : Sts w va sc.length sc) (h2 : Sts w ua sc.length sc) (hn : sc.length ≤ 9223372036854775806) : Calls Tryz.prog 21 #[.agg #[.bool ac, S cl, S su, .slice va sc.length vc, I fa, I iss, I en, I ge], .agg #[.bool ac, S cl, S su, .slice ua sc.length uc, I fa, I iss, I en, I ge]] w fun e w' => e = .returned (.bool true) ∧ Below w.heap.size w w' := by
  have hb : Below w.heap.size w ((w.alloc (.cells #[.bool ac, S cl, S su, .slice va sc.length vc, I fa, I iss, I en, I ge] 40)).alloc (.cells #[.bool ac, S cl, S su, .slice ua sc.length uc, I fa, I iss, I en, I ge] 40)) := (((Below.refl _ w).alloc (by simp <;> omega) _).alloc (by simp <;> omega) _)
  have ra : ((w.alloc (.cells #[.bool ac, S cl, S su, .slice va sc.length vc, I fa, I iss, I en, I ge] 40)).alloc (.cells #[.bool ac, S cl, S su, .slice ua sc.length uc, I fa, I iss, I en, I ge] 40)).heap[w.heap.size]? = some (.cells #[.bool ac, S cl, S su, .slice va sc.length vc, I fa, I iss, I en, I ge] 40 (0, 0)) := al_old _ _ _ (by simp <;> omega) (al_new w (.cells #[.bool ac, S cl, S su, .slice va sc.length vc, I fa, I iss, I en, I ge] 40) (w.heap.size) (by simp))
  have rb : ((w.alloc (.cells #[.bool ac, S cl, S su, .slice va sc.length vc, I fa, I iss, I en, I ge] 40)).alloc (.cells #[.bool ac, S cl, S su, .slice ua sc.length uc, I fa, I iss, I en, I ge] 40)).heap[w.heap.size + 1]? = some (.cells #[.bool ac, S cl, S su, .slice ua sc.length uc, I fa, I iss, I en, I ge] 40 (0, 0)) := al_new (w.alloc (.cells #[.bool ac, S cl, S su, .slice va sc.length vc, I fa, I iss, I en, I ge] 40)) (.cells #[.bool ac, S cl, S su, .slice ua sc.length uc, I fa, I iss, I en, I ge] 40) (w.heap.size + 1) (by simp)
  generalize hW1 : ((w.alloc (.cells #[.bool ac, S cl, S su, .slice va sc.length vc, I fa, I iss, I en, I ge] 40)).alloc (.cells #[.bool ac, S cl, S su, .slice ua sc.length uc, I fa, I iss, I en, I ge] 40)) = W1 at *
  have ca_3 : W1.cell? ⟨w.heap.size, 3, none⟩ = some (.slice va sc.length vc) := cellr ra rfl
  have cb_3 : W1.cell? ⟨w.heap.size + 1, 3, none⟩ = some (.slice ua sc.length uc) := cellr rb rfl
  have HB := hide hb
  have HRa := hide ra
  have HRb := hide rb
  clear hb ra rb
  have XS0 := same_any va ua sc.length sc.length vc uc sc sc W1 (h1.below (unhide HB)) (h2.below (unhide HB)) hn hn
  rw [show decide (sc = sc) = true from decide_eq_true rfl] at XS0
  have XS := hide XS0
  clear XS0 h1 h2
  go_enter Tryz.func21, Tryz.ntmps21
  go_wp2_with fail
  refine (unhide XS).mono ?_
  rintro e w2 ⟨rfl, h2⟩
  have hbB := (unhide HB).trans (h2.mono (unhide HB).size)
  have ra := (h2.block _ (lt_of_row (unhide HRa))).trans (unhide HRa)
  have rb := (h2.block _ (lt_of_row (unhide HRb))).trans (unhide HRb)
  clear h2 HB HRa HRb ca_3 cb_3 hW1
  have ca_0 : w2.cell? ⟨w.heap.size, 0, none⟩ = some (.bool ac) := cellr ra rfl
  have ca_1 : w2.cell? ⟨w.heap.size, 1, none⟩ = some (S cl) := cellr ra rfl
  have ca_2 : w2.cell? ⟨w.heap.size, 2, none⟩ = some (S su) := cellr ra rfl
  have ca_3 : w2.cell? ⟨w.heap.size, 3, none⟩ = some (.slice va sc.length vc) := cellr ra rfl
  have ca_4 : w2.cell? ⟨w.heap.size, 4, none⟩ = some (I fa) := cellr ra rfl
  have ca_5 : w2.cell? ⟨w.heap.size, 5, none⟩ = some (I iss) := cellr ra rfl
  have ca_6 : w2.cell? ⟨w.heap.size, 6, none⟩ = some (I en) := cellr ra rfl
  have ca_7 : w2.cell? ⟨w.heap.size, 7, none⟩ = some (I ge) := cellr ra rfl
  have cb_0 : w2.cell? ⟨w.heap.size + 1, 0, none⟩ = some (.bool ac) := cellr rb rfl
  have cb_1 : w2.cell? ⟨w.heap.size + 1, 1, none⟩ = some (S cl) := cellr rb rfl
  have cb_2 : w2.cell? ⟨w.heap.size + 1, 2, none⟩ = some (S su) := cellr rb rfl
  have cb_3 : w2.cell? ⟨w.heap.size + 1, 3, none⟩ = some (.slice ua sc.length uc) := cellr rb rfl
  have cb_4 : w2.cell? ⟨w.heap.size + 1, 4, none⟩ = some (I fa) := cellr rb rfl
  have cb_5 : w2.cell? ⟨w.heap.size + 1, 5, none⟩ = some (I iss) := cellr rb rfl
  have cb_6 : w2.cell? ⟨w.heap.size + 1, 6, none⟩ = some (I en) := cellr rb rfl
  have cb_7 : w2.cell? ⟨w.heap.size + 1, 7, none⟩ = some (I ge) := cellr rb rfl
  have HB := hide hbB
  have HRa := hide ra
  have HRb := hide rb
  clear hbB ra rb
  clear XS
  have e0 : (ac == ac) = true := by simp
  have e1 : (cl == cl) = true := by simp
  have e2 : (su == su) = true := by simp
  have e3 : (fa == fa) = true := by simp
  have e4 : (iss == iss) = true := by simp
  have e5 : (en == en) = true := by simp
  have e6 : (ge == ge) = true := by simp
  cases ac
  · go_wp2
    go_ret
    exact ⟨rfl, unhide HB⟩
  · go_wp2
    go_ret
    exact ⟨rfl, unhide HB⟩
end Go.Proofs.YtmjaobddgaglhaaGreatDoor
