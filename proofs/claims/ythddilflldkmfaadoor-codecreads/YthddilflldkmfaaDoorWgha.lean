import Derived.Test.YthddilflldkmfaaDoorPasc
import Derived.Test.YthddilflldkmfaaDoorLeta
import Derived.Deep.QuietTactic
import Derived.BigQuiet
namespace Go.Proofs.YthddilflldkmfaaDoor
open Go.RowKit Go.Lib
def it0 : Raw := ⟨0, 0, 0, 0, []⟩
/-- Items, one behind the other in memory. -/
def Its (w : World) (a : Option Addr) (n : Nat) (os : List Raw) : Prop :=
  n = os.length ∧ (0 < n → ∃ p o, a = some ⟨p, o, none⟩ ∧ ∀ j, j < n → w.cell? ⟨p, o + j * 5, none⟩ = some (.int .i64 (os.getD j it0).k) ∧ w.cell? ⟨p, o + j * 5 + 1, none⟩ = some (.int .i64 (os.getD j it0).s) ∧ w.cell? ⟨p, o + j * 5 + 2, none⟩ = some (.int .i64 (os.getD j it0).n) ∧ w.cell? ⟨p, o + j * 5 + 3, none⟩ = some (.int .i64 (os.getD j it0).m) ∧ w.cell? ⟨p, o + j * 5 + 4, none⟩ = some (.string ⟨(os.getD j it0).t.toArray⟩))
theorem Its.at {w : World} {a : Option Addr} {n : Nat} {os : List Raw} (h : Its w a n os) {j : Nat} (hj : j < n) : ∃ p o, a = some ⟨p, o, none⟩ ∧ p < w.heap.size ∧ w.cell? ⟨p, o + j * 5, none⟩ = some (.int .i64 (os.getD j it0).k) ∧ w.cell? ⟨p, o + j * 5 + 1, none⟩ = some (.int .i64 (os.getD j it0).s) ∧ w.cell? ⟨p, o + j * 5 + 2, none⟩ = some (.int .i64 (os.getD j it0).n) ∧ w.cell? ⟨p, o + j * 5 + 3, none⟩ = some (.int .i64 (os.getD j it0).m) ∧ w.cell? ⟨p, o + j * 5 + 4, none⟩ = some (.string ⟨(os.getD j it0).t.toArray⟩) := by
  obtain ⟨p, o, e, hc⟩ := h.2 (by omega)
  exact ⟨p, o, e, block_lt_of_cell (hc j hj).1, hc j hj⟩
theorem Its.below {w w' : World} {a : Option Addr} {n : Nat} {os : List Raw} (h : Its w a n os) (hb : Below w.heap.size w w') : Its w' a n os := by
  refine ⟨h.1, fun hn => ?_⟩
  obtain ⟨p, o, e, hc⟩ := h.2 hn
  exact ⟨p, o, e, fun j hj => ⟨(hb.cell (by exact block_lt_of_cell (hc j hj).1)).trans (hc j hj).1, (hb.cell (by exact block_lt_of_cell (hc j hj).2.1)).trans (hc j hj).2.1, (hb.cell (by exact block_lt_of_cell (hc j hj).2.2.1)).trans (hc j hj).2.2.1, (hb.cell (by exact block_lt_of_cell (hc j hj).2.2.2.1)).trans (hc j hj).2.2.2.1, (hb.cell (by exact block_lt_of_cell (hc j hj).2.2.2.2)).trans (hc j hj).2.2.2.2⟩⟩
/-- How much they weigh. -/
def wgt (os : List Raw) : Nat := os.foldl (fun n x => addN (addN n 100) x.t.length) 0
theorem wgt_next (os : List Raw) (k : Nat) (h : k < os.length) : wgt (os.take (k + 1)) = addN (addN (wgt (os.take k)) 100) (os.getD k it0).t.length := by
  have e : os.take (k + 1) = os.take k ++ [os.getD k it0] := by
    rw [List.take_succ_eq_append_getElem h]
    simp [h]
  unfold wgt
  rw [e, List.foldl_append]
  rfl
theorem wgt_le (os : List Raw) : wgt os ≤ 2147483648 := by
  suffices ∀ (l : List Raw) (n : Nat), n ≤ 2147483648 → l.foldl (fun n x => addN (addN n 100) x.t.length) n ≤ 2147483648 from this os 0 (by omega)
  intro l
  induction l with
  | nil => exact fun n h => h
  | cons x l ih => exact fun n _ => ih _ (addN_bd _ _)
theorem wgt_stay (l : List Raw) : l.foldl (fun n x => addN (addN n 100) x.t.length) 2147483648 = 2147483648 := by
  induction l with
  | nil => rfl
  | cons x l ih =>
    have : addN (addN 2147483648 100) x.t.length = 2147483648 := by
      unfold addN
      rw [if_pos (by split <;> omega)]
    rw [List.foldl_cons, this]
    exact ih
theorem wgt_top (os : List Raw) (k : Nat) (h : ¬ wgt (os.take k) ≤ 2147483647) : wgt os = 2147483648 := by
  have h2 := wgt_le (os.take k)
  have e : wgt (os.take k) = 2147483648 := by omega
  have : wgt os = (os.drop k).foldl (fun n x => addN (addN n 100) x.t.length) (wgt (os.take k)) := by
    unfold wgt
    rw [← List.foldl_append, List.take_append_drop]
  rw [this, e]
  exact wgt_stay _
set_option maxHeartbeats 1000000 in
set_option maxRecDepth 8000 in
theorem weight_any (a : Option Addr) (n cap : Nat) (os : List Raw) (w : World) (hp : Its w a n os) (hn : n ≤ 140737488351232) (hps : ∀ j, (os.getD j it0).t.length ≤ 140737488351232) :
    Calls Tryd.prog 35 #[.slice a n cap] w fun e w' => e = .returned (.int .i64 (wgt os : Nat)) ∧ Below w.heap.size w w' := by
  have HP := hide hp
  clear hp
  go_enter Tryd.func35, Tryd.ntmps35
  go_wp2
  go_loopw [3, 4] (fun c i wr => ∃ k : Nat, k ≤ n ∧ i = .int .i64 k ∧ c = .int .i64 ((wgt (os.take k) : Nat) : Int) ∧ Below w.heap.size w wr) (fun _ i _ => n - (Go.RowKit.intOf i).toNat)
  case atStart => exact ⟨0, by omega, rfl, by simp [wgt], Below.refl _ _⟩
  case round =>
    obtain ⟨k, hkn, rfl, rfl, hbr⟩ := hrel
    have hle := wgt_le (os.take k)
    by_cases hlt : k < n
    · by_cases hm : wgt (os.take k) ≤ 2147483647
      · obtain ⟨p, o, rfl, hpl, hc0, hc1, hc2, hc3, hc4⟩ := ((unhide HP).below hbr).at hlt
        have hnx := hide (wgt_next os k (by have := (unhide HP).1; omega))
        have hX := hps k
        generalize os.getD k it0 = X at *
        generalize wgt (os.take k) = C at *
        have hm' : (C : Int) ≤ 2147483647 := by omega
        have A1 := hide (fun W => add_any C 100 W (by omega) (by omega))
        have hb1 := addN_bd C 100
        have A2 := hide (fun W => add_any (addN C 100) X.t.length W (by omega) (by omega))
        generalize addN (addN C 100) X.t.length = G at *
        generalize addN C 100 = D at *
        rw [show ((100 : Nat) : Int) = 100 from rfl] at A1
        clear hc0 hc1 hc2 hc3
        have hlt' : (k : Int) < (n : Int) := by omega
        go_wp2_with fail
        have B1 := hide (fun m : Nat => Calls.mono (unhide A1 (wr.drewN m)) (fun e w'' h => (⟨h.1, m, h.2⟩ : e = Ending.returned (Value.int IntKind.i64 (D : Int)) ∧ ∃ n, w'' = wr.drewN n)))
        have B2 := hide (fun m : Nat => Calls.mono (unhide A2 (wr.drewN m)) (fun e w'' h => (⟨h.1, m, h.2⟩ : e = Ending.returned (Value.int IntKind.i64 (G : Int)) ∧ ∃ n, w'' = wr.drewN n)))
        clear A1 A2
        go_quiet ((go_at_call 22; with_reducible first | exact unhide B1 _ | exact unhide B2 _))
        have hs := below_drewN' hbr nq
        generalize wr.drewN nq = wv at *
        go_wp2
        go_roundw
        case rel =>
          refine ⟨k + 1, by omega, by go_num, ?_, hs⟩
          rw [unhide hnx]
        case measure => simp [Go.RowKit.intOf]; omega
      · have e := wgt_top os k hm
        have e2 : wgt (os.take k) = 2147483648 := by omega
        rw [e2]
        clear hm e2 hle
        have he := hide e
        clear e
        go_wp2
        go_ret
        exact ⟨by rw [unhide he]; rfl, hbr⟩
    · have hkn' : k = n := by omega
      have e : os.take k = os := List.take_of_length_le (by have := (unhide HP).1; omega)
      rw [e] at hle ⊢
      have hd : decide (k < n) = false := by simp; omega
      generalize hC : wgt os = C at *
      clear hlt hkn'
      go_wp2
      go_ret
      exact ⟨by rw [hC]; rfl, hbr⟩
end Go.Proofs.YthddilflldkmfaaDoor
