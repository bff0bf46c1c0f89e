import Derived.Test.YtfaahjbkdlkmjaaDoorTzz
import Derived.Test.YtfaahjbkdlkmjaaDoorJxc
import Derived.Test.YtfaahjbkdlkmjaaDoorJet
/- Jot: a copy of a value without parts; Get. -/
namespace Go.Proofs.YtfaahjbkdlkmjaaDoor
open Go Go.RowKit Go.Lib
set_option linter.unusedVariables false
set_option linter.unusedSimpArgs false
theorem cellr {w : World} {g j : Nat} {vs : Array Value} {t : TypeId} {f : Nat × Nat} {v : Value} (h : w.heap[g]? = some (.cells vs t f)) (e : vs[j]? = some v) : w.cell? ⟨g, j, none⟩ = some v := by
  unfold World.cell?
  rw [h]
  exact e
theorem st_all {T : TypeId} {n : Nat} (hs : ∀ w, (sizeOf T).run Tryd.prog w = .ok n w) {W : World} {g : Nat} {cs : Array Value} {t : TypeId} (hg : W.heap[g]? = some (.cells cs t (0, 0))) (hn : cs.size = n) (vs : Array Value) (hv : vs.size = n) (h1 : vs.all (·.oneCell') = true) : (Instr.storeAt T (.pointer (some ⟨g, 0, none⟩)) (.agg vs)).run Tryd.prog W = .ok () (W.setRow g vs) := by
  have h := s_sta (T := T) (n := n) hs (o := 0) hg (.agg vs) (by simpa [Value.cells] using hv) (by omega) (fun x hx => by
    have := Array.all_eq_true_iff_forall_mem.1 h1 x (by simpa [Value.cells] using hx)
    exact this)
  rw [h]
  have hl : cs.toList.length = n := by simpa using hn
  have hd : cs.toList.drop (0 + n) = [] := List.drop_eq_nil_of_le (by omega)
  have hv0 : (Value.agg vs).cells = vs := rfl
  rw [hd, hv0, List.append_nil, List.take_zero, List.nil_append]
theorem setRow_row {w : World} {g : Nat} {cs vs : Array Value} {t : TypeId} {f : Nat × Nat} (h : w.heap[g]? = some (.cells cs t f)) : (w.setRow g vs).heap[g]? = some (.cells vs t f) := setRow_heap w g cs vs t f h
theorem bel_set {B : Nat} {w W : World} (h : Below B w W) (k : Nat) (vs : Array Value) (hk : B ≤ k) (hB : B ≤ W.heap.size) : Below B w (W.setRow k vs) :=
  ⟨h.os, h.tape, h.output, Nat.le_trans h.size (by simp), fun j hj => (setRow_other W k j vs (by omega)).trans (h.block j hj)⟩
def cl1T : List (Op × Option Tmp × Option (Nat × Bool)) := [
  (.fieldAddr 25 (.tmp 1) 0, some 8, none),
  (.load 3 (.tmp 8), some 9, none),
  (.fieldAddr 25 (.tmp 1) 1, some 10, none),
  (.load 3 (.tmp 10), some 11, none),
  (.fieldAddr 25 (.tmp 1) 2, some 12, none),
  (.load 9 (.tmp 12), some 13, none),
  (.call { callee := .value (.func 32), args := #[(.tmp 13)], argTypes := #[9] }, some 14, none),
  (.build 25 #[(0, (.tmp 9)), (1, (.tmp 11)), (2, (.tmp 14))], some 15, none),
  (.alloc 25, some 3, none),
  (.store 25 (.tmp 3) (.tmp 15), none, none)]
def cl1V (g : Nat) (k n : Int) (t : Bs) (c : Nat) : Nat → Value
  | 0 => .pointer (some ⟨g, 0, none⟩)
  | 1 => I k
  | 2 => .pointer (some ⟨g, 1, none⟩)
  | 3 => I n
  | 4 => .pointer (some ⟨g, 2, none⟩)
  | 5 => S t
  | 6 => S t
  | 7 => .agg #[I k, I n, S t, .slice none 0 0, .slice none 0 0]
  | 8 => .pointer (some ⟨c, 0, none⟩)
  | _ => undef
theorem cl1V_na {g : Nat} {k n : Int} {t : Bs} {c c' : Nat} {j : Nat} (h : j ≠ 8) : cl1V g k n t c' j = cl1V g k n t c j := by
  unfold cl1V
  split <;> first | rfl | omega
/-- Between two operations. -/
structure WCl (W0 : World) (g : Nat) (cs new : Array Value) (c : Nat) (L : Nat → Bool) (W : World) : Prop where
  be : Below W0.heap.size W0 W
  bx : W.heap[g]? = some (.cells cs 25 (0, 0))
  od : L 9 = true → L 8 = true
  nw : L 8 = true → W0.heap.size ≤ c ∧ W.heap[c]? = some (.cells (if L 9 = true then new else #[I 0, I 0, S [], .slice none 0 0, .slice none 0 0]) 25 (0, 0))
theorem WCl.pure {W0 : World} {g : Nat} {cs new : Array Value} {c : Nat} {L : Nat → Bool} {W : World} (h : WCl W0 g cs new c L W) (i : Nat) (h8 : i ≠ 8) (h9 : i ≠ 9) : WCl W0 g cs new c (upd L i) W := by
  refine ⟨h.be, h.bx, fun q => by simpa [upd, Ne.symm h8] using h.od (by simpa [upd, Ne.symm h9] using q), fun q => ?_⟩
  rw [show upd L i 9 = L 9 by simp [upd, Ne.symm h9]]
  exact h.nw (by simpa [upd, Ne.symm h8] using q)
theorem WCl.call {W0 : World} {g : Nat} {cs new : Array Value} {c : Nat} {L : Nat → Bool} {W W' : World} (h : WCl W0 g cs new c L W) (hb : Below W.heap.size W W') : WCl W0 g cs new c L W' := by
  refine ⟨h.be.trans (hb.mono h.be.size), (hb.block _ (lt_of_row h.bx)).trans h.bx, h.od, fun q => ⟨(h.nw q).1, (hb.block _ (lt_of_row (h.nw q).2)).trans (h.nw q).2⟩⟩
set_option maxHeartbeats 4000000 in
set_option maxRecDepth 20000 in
theorem clone_leaf (k n : Int) (t : Bs) (na : Option Addr) (nc : Nat) (xa : Option Addr) (xc : Nat) (w : World) (ht : t.length ≤ 281474976710656) :
    Calls Tryd.prog 20 #[.agg #[I k, I n, S t, .slice na 0 nc, .slice xa 0 xc]] w fun e w' => e = .returned (.agg #[I k, I n, S t, .slice none 0 0, .slice none 0 0]) ∧ Below w.heap.size w w' := by
  obtain ⟨W1, hW1⟩ : ∃ W1, (w.alloc (.cells #[I k, I n, S t, .slice na 0 nc, .slice xa 0 xc] 25)).alloc (.cells #[I 0, I 0, S [], .slice none 0 0, .slice none 0 0] 25) = W1 := ⟨_, rfl⟩
  have hb1 : Below w.heap.size w W1 := by
    rw [← hW1]
    exact ((Below.refl _ _).alloc (Nat.le_refl _) _).alloc (by simp) _
  have r1 : W1.heap[w.heap.size]? = some (.cells #[I k, I n, S t, .slice na 0 nc, .slice xa 0 xc] 25 (0, 0)) := by
    rw [← hW1]
    exact row_old (heap_alloc_new w _)
  have r2 : W1.heap[w.heap.size + 1]? = some (.cells #[I 0, I 0, S [], .slice none 0 0, .slice none 0 0] 25 (0, 0)) := by
    rw [← hW1]
    have := heap_alloc_new (w.alloc (.cells #[I k, I n, S t, .slice na 0 nc, .slice xa 0 xc] 25)) (.cells #[I 0, I 0, S [], .slice none 0 0, .slice none 0 0] 25)
    simpa using this
  have hsz : W1.heap.size = w.heap.size + 2 := by rw [← hW1]; simp
  have HB1 := hide hb1
  have R1 := hide r1
  have R2 := hide r2
  clear hb1 r1 r2
  go_enter Tryd.func20, Tryd.ntmps20
  go_upto_region 1 with fail
  try simp only [hW1]
  clear hW1
  refine region_tabG cl1T [(1, .pointer (some ⟨w.heap.size, 0, none⟩))] 47 [0, 2, 4, 7] [] (cl1V w.heap.size k n t) rfl (by rfl) (by rfl) rfl (fun c => by kernel_rfl) (fun c => by kernel_rfl) (fun c w => by kernel_rfl) _ W1 (Nat.le_of_ble_eq_true rfl) rfl (fun c L W => WCl W1 w.heap.size #[I k, I n, S t, .slice na 0 nc, .slice xa 0 xc] #[I k, I n, S t, .slice none 0 0, .slice none 0 0] c L W) ⟨0, ⟨(Below.refl _ _).drew, unhide R1, fun q => by simp at q, fun q => by simp at q⟩⟩ (fun i hi c L W hW => hW.pure i (by intro e; subst e; simp at hi) (by intro e; subst e; simp at hi)) ?spc ?_
  case spc =>
    intro i hi hp hs c L W hW hL hd
    rcases (by simp [cl1T] at hi hp hs; omega : i = 1 ∨ i = 3 ∨ i = 5 ∨ i = 6 ∨ i = 8 ∨ i = 9) with rfl | rfl | rfl | rfl | rfl | rfl
    · exact ⟨s_ld (T := 3) (fun _ => by kernel_rfl) (cellr hW.bx rfl), hW.pure 1 (by decide) (by decide)⟩
    · exact ⟨s_ld (T := 3) (fun _ => by kernel_rfl) (cellr hW.bx rfl), hW.pure 3 (by decide) (by decide)⟩
    · exact ⟨s_ld (T := 9) (fun _ => by kernel_rfl) (cellr hW.bx rfl), hW.pure 5 (by decide) (by decide)⟩
    · exact ⟨⟨_, _, Tryd.func32, by kernel_rfl, rfl⟩, (clone32_any t W (by omega) ht).mono fun e w' q => ⟨c, fun _ _ => rfl, q.1, (hW.call q.2).pure 6 (by decide) (by decide)⟩⟩
    · refine ⟨W.heap.size, W.alloc (.cells #[I 0, I 0, S [], .slice none 0 0, .slice none 0 0] 25), fun j hj => cl1V_na (by intro e; subst e; rw [hL] at hj; cases hj), (show (Instr.alloc 25 true (.tuple #[])).run Tryd.prog W = .ok (.pointer (some ⟨W.heap.size, 0, none⟩)) (W.alloc (.cells #[I 0, I 0, S [], .slice none 0 0, .slice none 0 0] 25)) by kernel_rfl), ?_⟩
      have hc := hW.call ((Below.refl W.heap.size W).alloc (Nat.le_refl _) (.cells #[I 0, I 0, S [], .slice none 0 0, .slice none 0 0] 25))
      refine ⟨hc.be, hc.bx, fun _ => by simp [upd], fun _ => ⟨hW.be.size, ?_⟩⟩
      rw [show upd L 8 9 = L 9 by simp [upd]]
      have h9 : L 9 = false := by
        cases q : L 9 with
        | false => rfl
        | true => exact absurd (hW.od q) (by rw [hL]; simp)
      rw [h9, if_neg (by decide)]
      exact heap_alloc_new W _
    · have h8 : L 8 = true := hd 8 (by rfl)
      obtain ⟨hc1, hc2⟩ := hW.nw h8
      rw [hL, if_neg (by decide)] at hc2
      refine ⟨rfl, W.setRow c #[I k, I n, S t, .slice none 0 0, .slice none 0 0], st_all (T := 25) (n := 5) (fun _ => by kernel_rfl) hc2 rfl _ rfl (by simp [Value.oneCell']), ?_⟩
      refine ⟨bel_set hW.be c _ hc1 hW.be.size, (setRow_other W c _ _ (by have := lt_of_row (unhide R1); omega)).trans hW.bx, fun _ => by simp [upd, h8], fun _ => ⟨hc1, ?_⟩⟩
      rw [show upd L 9 9 = true by simp [upd], if_pos rfl]
      exact setRow_row hc2
  intro c L W2 hall hW
  simp only [frmL, cl1T, cl1V, Act.put, List.setIfInBounds_toArray, List.set_cons_succ, List.set_cons_zero]
  have hbx := hW.bx
  obtain ⟨hc1, hc2⟩ := hW.nw (hall 8 (by decide))
  rw [hall 9 (by decide), if_pos rfl] at hc2
  have hbe := (unhide HB1).trans (hW.be.mono (by omega))
  have r2 := (hW.be.block _ (lt_of_row (unhide R2))).trans (unhide R2)
  clear hall hW HB1 R1 R2
  have c0 : W2.cell? ⟨w.heap.size, 3, none⟩ = some (.slice na 0 nc) := cellr hbx rfl
  have c1 : W2.cell? ⟨w.heap.size, 4, none⟩ = some (.slice xa 0 xc) := cellr hbx rfl
  have d0 : W2.cell? ⟨c, 0, none⟩ = some (I k) := cellr hc2 rfl
  have d1 : W2.cell? ⟨c, 1, none⟩ = some (I n) := cellr hc2 rfl
  have d2 : W2.cell? ⟨c, 2, none⟩ = some (S t) := cellr hc2 rfl
  have d3 : W2.cell? ⟨c, 3, none⟩ = some (.slice none 0 0) := cellr hc2 rfl
  have d4 : W2.cell? ⟨c, 4, none⟩ = some (.slice none 0 0) := cellr hc2 rfl
  have e0 : W2.cell? ⟨w.heap.size + 1, 0, none⟩ = some (I 0) := cellr r2 rfl
  have e1 : W2.cell? ⟨w.heap.size + 1, 1, none⟩ = some (I 0) := cellr r2 rfl
  have e2 : W2.cell? ⟨w.heap.size + 1, 2, none⟩ = some (S []) := cellr r2 rfl
  have e3 : W2.cell? ⟨w.heap.size + 1, 3, none⟩ = some (.slice none 0 0) := cellr r2 rfl
  have e4 : W2.cell? ⟨w.heap.size + 1, 4, none⟩ = some (.slice none 0 0) := cellr r2 rfl
  have z0 := frz r2 0
  have z1 := frz r2 1
  have z2 := frz r2 2
  have z3 := frz r2 3
  have z4 := frz r2 4
  have HBE := hide hbe
  have HR2 := hide r2
  clear hbe hbx hc2 r2
  go_wp2_with fail
  go_loopw [19] (fun i9 wr => i9 = .int .i64 0 ∧ wr = W2) (fun i9 _ => 0)
  case atStart => exact ⟨rfl, rfl⟩
  case round =>
    obtain ⟨rfl, rfl⟩ := hrel
    go_wp2_with fail
    go_loopw [34] (fun i9 wr2 => i9 = .int .i64 0 ∧ wr2 = wr) (fun i9 _ => 0)
    case atStart => exact ⟨rfl, rfl⟩
    case round =>
      obtain ⟨rfl, rfl⟩ := hrel
      go_wp2_with fail
      refine bodyPost_ret (v := .agg #[I k, I n, S t, .slice none 0 0, .slice none 0 0]) (results_cell_row Tryd.results20 _ _ (w.heap.size + 1) 25 _ (0, 0) _ rfl (set5_row (unhide HR2) _ _ _ _ _) Tryd.underlying25 rfl (by kernel_rfl)) rfl ?_
      exact ⟨rfl, (unhide HBE).trans (set5_below _ w.heap.size (w.heap.size + 1) (by omega) _ _ _ _ _)⟩
end Go.Proofs.YtfaahjbkdlkmjaaDoor
