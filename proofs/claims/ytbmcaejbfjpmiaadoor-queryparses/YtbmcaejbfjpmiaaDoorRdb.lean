import Derived.Test.YtbmcaejbfjpmiaaDoorByc
import Derived.Deep.QuietTactic
import Derived.BigQuiet
namespace Go.Proofs.YtbmcaejbfjpmiaaDoor
open Go.RowKit Go.Lib
theorem byteTwo (a b : UInt8) (ha : 0 ≤ dg a) (hb : 0 ≤ dg b) : bits .or .i64 (dg a * 16) (dg b) % 256 = ((two a b).toNat : Int) := by
  have h1 := dg_range a
  have h2 := dg_range b
  obtain ⟨x, hx⟩ : ∃ x : Nat, dg a = x := ⟨(dg a).toNat, by omega⟩
  obtain ⟨y, hy⟩ : ∃ y : Nat, dg b = y := ⟨(dg b).toNat, by omega⟩
  unfold two
  rw [hx, hy, show ((x : Int) * 16) = (x : Int) * 2 ^ 4 by omega, or_add 4 x y (by omega) (by omega)]
  simp
  omega
set_option maxHeartbeats 4000000 in
set_option maxRecDepth 8000 in
theorem readByte_two (a b : UInt8) (u : List UInt8) (w : World) (hu : u.length ≤ 1099511627776) :
    Calls Tryd.prog 36 #[.string ⟨(a :: b :: u).toArray⟩] w fun e w' => e = .returned (.tuple #[.int .u8 (if 0 ≤ dg a ∧ 0 ≤ dg b then ((two a b).toNat : Int) else 0), .bool (decide (0 ≤ dg a ∧ 0 ≤ dg b))]) ∧ ∃ n, w' = w.drewN n := by
  have hsz : (ByteArray.mk (a :: b :: u).toArray).size = u.length + 2 := by simp [ByteArray.size]
  have hs0 : 0 < (ByteArray.mk (a :: b :: u).toArray).size := by omega
  have hs1 : 1 < (ByteArray.mk (a :: b :: u).toArray).size := by omega
  have e0 : (ByteArray.mk (a :: b :: u).toArray)[0]'hs0 = a := rfl
  have e1 : (ByteArray.mk (a :: b :: u).toArray)[1]'hs1 = b := rfl
  have ra := dg_range a
  have rb := dg_range b
  have HT := hide (byteTwo a b)
  generalize hX : ByteArray.mk (a :: b :: u).toArray = X at *
  clear hX
  have i0 : (0 : Int) < (X.size : Int) := by omega
  have i1 : (1 : Int) < (X.size : Int) := by omega
  have i2 : ¬ (X.size : Int) < 2 := by omega
  clear hsz
  have A1 : Hid (∀ W : World, Calls Tryd.prog 44 #[.int .u8 ((X[0]'hs0).toNat : Int)] W fun e w' => e = .returned (.int .i64 (dg a)) ∧ w' = W) := hide (fun W => by rw [e0]; exact worth_any a W)
  have A2 : Hid (∀ W : World, Calls Tryd.prog 44 #[.int .u8 ((X[1]'hs1).toNat : Int)] W fun e w' => e = .returned (.int .i64 (dg b)) ∧ w' = W) := hide (fun W => by rw [e1]; exact worth_any b W)
  clear e0 e1
  have HG : ∀ (D E : Int), dg a = D → dg b = E → Calls Tryd.prog 36 #[.string X] w fun e w' => e = .returned (.tuple #[.int .u8 (if 0 ≤ D ∧ 0 ≤ E then ((two a b).toNat : Int) else 0), .bool (decide (0 ≤ D ∧ 0 ≤ E))]) ∧ ∃ n, w' = w.drewN n := by
    intro D E hD hE
    rw [hD, hE] at HT
    rw [hD] at A1 ra
    rw [hE] at A2 rb
    clear hD hE
    have B1 := hide (fun m : Nat => Calls.mono (unhide A1 (w.drewN m)) (fun e w'' h => (⟨h.1, m, h.2⟩ : e = Ending.returned (Value.int IntKind.i64 D) ∧ ∃ n, w'' = w.drewN n)))
    have B2 := hide (fun m : Nat => Calls.mono (unhide A2 (w.drewN m)) (fun e w'' h => (⟨h.1, m, h.2⟩ : e = Ending.returned (Value.int IntKind.i64 E) ∧ ∃ n, w'' = w.drewN n)))
    clear A1 A2
    generalize ((two a b).toNat : Int) = T at *
    by_cases hD : 0 ≤ D
    · by_cases hE : 0 ≤ E
      · rw [if_pos ⟨hD, hE⟩, decide_eq_true ⟨hD, hE⟩]
        have HS := hide (unhide HT hD hE)
        clear HT
        go_enter Tryd.func36, Tryd.ntmps36
        go_wp2_with fail
        go_quiet ((go_at_call 44; with_reducible first | exact unhide B1 _ | exact unhide B2 _))
        go_wp2
        go_ret2
        refine ⟨?_, _, rfl⟩
        rw [unhide HS]
        rfl
      · rw [if_neg (by omega), decide_eq_false (by omega)]
        have hE' : E < 0 := by omega
        clear hE HT
        go_enter Tryd.func36, Tryd.ntmps36
        go_wp2_with fail
        go_quiet ((go_at_call 44; with_reducible first | exact unhide B1 _ | exact unhide B2 _))
        go_wp2
        go_ret2
        exact ⟨rfl, _, rfl⟩
    · rw [if_neg (by omega), decide_eq_false (by omega)]
      have hD' : D < 0 := by omega
      clear hD HT
      go_enter Tryd.func36, Tryd.ntmps36
      go_wp2_with fail
      go_quiet ((go_at_call 44; with_reducible first | exact unhide B1 _ | exact unhide B2 _))
      go_wp2
      go_ret2
      exact ⟨rfl, _, rfl⟩
  exact HG _ _ rfl rfl
theorem readByte_short (u : List UInt8) (w : World) (hu : u.length < 2) :
    Calls Tryd.prog 36 #[.string ⟨u.toArray⟩] w fun e w' => e = .returned (.tuple #[.int .u8 0, .bool false]) ∧ ∃ n, w' = w.drewN n := by
  go_enter Tryd.func36, Tryd.ntmps36
  go_wp2
  go_ret2
  exact ⟨rfl, 0, rfl⟩
end Go.Proofs.YtbmcaejbfjpmiaaDoor
