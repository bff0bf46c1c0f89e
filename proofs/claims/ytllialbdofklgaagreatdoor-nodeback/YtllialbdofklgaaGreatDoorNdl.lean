import Derived.Test.YtllialbdofklgaaGreatDoorNdk
namespace Go.Proofs.YtllialbdofklgaaGreatDoor
open Go.RowKit
set_option maxHeartbeats 8000000
set_option maxRecDepth 8000
theorem copiedTexts_any (a : Option Addr) (n cap : Nat) (l : List Bs) (w : World) (hp : Sts w a n l) (hn : n ≤ 4294967296) (ht : tot l ≤ 4294967296) :
    Calls Tryz.prog 100 #[.slice a n cap] w fun e w' => ∃ V, e = .returned V ∧ w'.ownsRow 0 9 1 V l.length (l.map S) ∧ (∀ k, V.ownBlock = some k → w.heap.size ≤ k) ∧ Below w.heap.size w w' := by
  have hN := hp.1
  subst hN
  have HP := hide hp
  have HT := hide (fun k => Nat.le_trans (tot_at l k) ht)
  clear hp ht
  go_enter Tryz.func100, Tryz.ntmps100
  go_wp2
  go_loopw [3, 8] (fun v i wr => ∃ k : Nat, k ≤ l.length ∧ i = .int .i64 k ∧ wr.ownsRow 0 9 1 v k ((l.take k).map S) ∧ (∀ j, v.ownBlock = some j → w.heap.size ≤ j) ∧ Below w.heap.size w wr) (fun _ i _ => l.length - (Go.RowKit.intOf i).toNat)
  case atStart => exact ⟨0, by omega, rfl, owns_nil _ _ _, (fun j hj => nomatch hj), Below.refl _ _⟩
  case round =>
    obtain ⟨k, hk, rfl, hr, hv, hb⟩ := hrel
    by_cases hlt : k < l.length
    · obtain ⟨p, o, rfl, hpl, hc0⟩ := ((unhide HP).below hb).at hlt
      have hlt' : (k : Int) < (l.length : Int) := by omega
      have hxl := unhide HT k
      have HN : Hid ((l.take (k + 1)).map S = (l.take k).map S ++ [S (l.getD k [])]) := by
        show (l.take (k + 1)).map S = (l.take k).map S ++ [S (l.getD k [])]
        rw [List.take_succ_eq_append_getElem hlt, List.map_append, List.getD_eq_getElem?_getD, List.getElem?_eq_getElem hlt]
        rfl
      generalize l.getD k [] = x at *
      have H1 := hide (clone_any x wr (by omega))
      obtain ⟨p0, c0, rfl⟩ := owns_form hr
      have HR := hide hr
      have HV := hide hv
      have HB := hide hb
      generalize (l.take k).map S = xs at *
      clear hr hv hb
      go_wp2_with fail
      refine (unhide H1).mono ?_
      rintro e w2 ⟨rfl, b2⟩
      have HR2 := hide (owns_below (unhide HR) b2)
      have HB2 := hide ((unhide HB).trans (b2.mono (unhide HB).size))
      have HS2 := hide (Nat.le_trans (unhide HB).size b2.size)
      clear b2 HR HB hc0
      go_wp2_with (at_builtin; refine push_own 22 9 _ 1 16 Tryz.underlying22 info9 rfl (by decide) rfl (.tmp 12) (.tmp 15) rfl (.slice p0 k c0) k xs (by rfl) w2 (unhide HR2) [S x] rfl (by intro u hu; simp at hu; subst hu; rfl) (by rfl) (by omega) (by omega) ?_; intro p3 c3 w3 r3 o3 n3; have HR3 := hide r3; have HO3 := hide o3; have HN3 := hide n3; clear r3 o3 n3)
      go_round
      case measure => simp [Go.RowKit.intOf]; omega
      case rel =>
        refine ⟨k + 1, by omega, by simp, ?_, ?_, ?_⟩
        · rw [unhide HN]; exact unhide HR3
        · intro j hj
          rcases unhide HN3 j hj with q | q
          · exact unhide HV j q
          · have := unhide HS2; omega
        · exact (unhide HO3).below (unhide HB2) (unhide HS2) (fun j hj => unhide HV j hj)
    · have hlt' : ¬ (k : Int) < (l.length : Int) := by omega
      obtain rfl : k = l.length := by omega
      have HR := hide hr
      have HV := hide hv
      have HB := hide hb
      clear hr hv hb
      go_wp2
      go_ret
      refine ⟨_, rfl, ?_, unhide HV, unhide HB⟩
      have := unhide HR
      rwa [List.take_length] at this
theorem cloneI_nil (w : World) : Calls Tryz.prog 61 #[.slice none 0 0] w fun e w' => e = .returned (.slice none 0 0) ∧ w' = w := by
  have hnil : ∀ W : World, (binOp BinOp.eql 23 (Value.slice none 0 0) (Value.slice none 0 0)).run Tryz.prog W = .ok (.bool true) W := fun W => by
    first | rfl | simp [binOp, go_sem, Tryz.underlying23]
  go_enter Tryz.func61, Tryz.ntmps61
  go_wp2
  go_ret
  exact ⟨rfl, rfl⟩
end Go.Proofs.YtllialbdofklgaaGreatDoor
