import Derived.Test.YtfaahjbkdlkmjaaDoorJde
/- Jot: Print, whole. -/
namespace Go.Proofs.YtfaahjbkdlkmjaaDoor
open Go Go.RowKit Go.Lib
set_option linter.unusedVariables false
set_option linter.unusedSimpArgs false
theorem row_old {w : World} {o o' : Obj} {i : Nat} (h : w.heap[i]? = some o') : (w.alloc o).heap[i]? = some o' :=
  (Lib.alloc_old w o i (Array.getElem?_eq_some_iff.1 h).1).trans h
set_option maxHeartbeats 8000000 in
set_option maxRecDepth 20000 in
theorem print_any (j : J) (na : Option Addr) (nc : Nat) (xa : Option Addr) (xc : Nat) (w : World) (hE : Env w) (hj : JP w na xa j) (hd : dep j ≤ 1000000) :
    Calls Tryd.prog 7 #[vJ j.k j.n j.t na j.ns.length nc xa j.xs.length xc] w fun e w' => Below w.heap.size w w' ∧ e = .returned (.tuple #[S (prn j).1, I (prn j).2]) := by
  have hmf : ∀ (fn : Fn) (first cap : Array Value) (w : World), (Instr.makeFunc fn first cap).run Tryd.prog w = .ok (.func fn first cap) w := fun _ _ _ _ => rfl
  obtain ⟨W1, hW1⟩ : ∃ W1, ((w.alloc (.cells #[I j.k, I j.n, S j.t, .slice na j.ns.length nc, .slice xa j.xs.length xc] 25)).alloc (.cells #[S []] 9)).alloc (.cells #[I 0] 28) = W1 := ⟨_, rfl⟩
  have hb1 : Below w.heap.size w W1 := by
    rw [← hW1]
    exact (((Below.refl _ _).alloc (Nat.le_refl _) _).alloc (by simp) _).alloc (by simp; omega) _
  have r25 : W1.heap[w.heap.size]? = some (.cells #[I j.k, I j.n, S j.t, .slice na j.ns.length nc, .slice xa j.xs.length xc] 25 (0, 0)) := by
    rw [← hW1]
    exact row_old (row_old (heap_alloc_new w _))
  have r9 : W1.heap[w.heap.size + 1]? = some (.cells #[S []] 9 (0, 0)) := by
    rw [← hW1]
    refine row_old ?_
    have := heap_alloc_new (w.alloc (.cells #[I j.k, I j.n, S j.t, .slice na j.ns.length nc, .slice xa j.xs.length xc] 25)) (.cells #[S []] 9)
    simpa using this
  have r28 : W1.heap[w.heap.size + 1 + 1]? = some (.cells #[I 0] 28 (0, 0)) := by
    rw [← hW1]
    have := heap_alloc_new ((w.alloc (.cells #[I j.k, I j.n, S j.t, .slice na j.ns.length nc, .slice xa j.xs.length xc] 25)).alloc (.cells #[S []] 9)) (.cells #[I 0] 28)
    simpa using this
  have hsz : w.heap.size + 1 + 1 < W1.heap.size := (Array.getElem?_eq_some_iff.1 r28).1
  have c0 : W1.cell? ⟨w.heap.size, 0, none⟩ = some (I j.k) := by rw [Lib.cell_of_heap r25]; rfl
  have c1 : W1.cell? ⟨w.heap.size, 1, none⟩ = some (I j.n) := by rw [Lib.cell_of_heap r25]; rfl
  have c2 : W1.cell? ⟨w.heap.size, 2, none⟩ = some (S j.t) := by rw [Lib.cell_of_heap r25]; rfl
  have c3 : W1.cell? ⟨w.heap.size, 3, none⟩ = some (.slice na j.ns.length nc) := by rw [Lib.cell_of_heap r25]; rfl
  have c4 : W1.cell? ⟨w.heap.size, 4, none⟩ = some (.slice xa j.xs.length xc) := by rw [Lib.cell_of_heap r25]; rfl
  have HD := hide (depth_any j na nc xa xc W1 (hE.below hb1) (JP.keep hb1 j hj) hd)
  have HE := hide hE
  have HJ := hide hj
  have HB1 := hide hb1
  have R25 := hide r25
  have R9 := hide r9
  have R28 := hide r28
  clear hE hj hb1 r25 r9 r28
  unfold vJ at HD ⊢
  go_enter_defers Tryd.func7, Tryd.ntmps7
  go_wp2_with fail
  clear hW1
  refine (unhide HD).mono ?_
  rintro e w2 ⟨h2, he⟩
  have s9 := (h2.block _ (Array.getElem?_eq_some_iff.1 (unhide R9)).1).trans (unhide R9)
  have s28 := (h2.block _ (Array.getElem?_eq_some_iff.1 (unhide R28)).1).trans (unhide R28)
  have s25 := (h2.block _ (Array.getElem?_eq_some_iff.1 (unhide R25)).1).trans (unhide R25)
  have hbw2 : Below w.heap.size w w2 := (unhide HB1).trans (h2.mono (unhide HB1).size)
  cases hm : may j with
  | false =>
    rw [hm, if_neg (by decide)] at he
    subst he
    have hpr : prn j = ([], 43) := by unfold prn; rw [if_pos hm]
    go_wp2_with fail
    refine leaves_cons (f := 11) (args := #[.pointer (some ⟨w.heap.size + 1, 0, none⟩), .pointer (some ⟨w.heap.size + 1 + 1, 0, none⟩)]) (by simp) (by simp [go_sem]) ?_
    refine (catch11 (w.heap.size + 1) _ _ 43 0 [] w2 s9 s28).mono ?_
    rintro e u' w'' ⟨rfl, rfl, k1, k2, k3⟩
    have q1 : w''.cell? ⟨w.heap.size + 1, 0, none⟩ = some (S []) := by rw [Lib.cell_of_heap k1]; rfl
    have q2 : w''.cell? ⟨w.heap.size + 1 + 1, 0, none⟩ = some (I 43) := by rw [Lib.cell_of_heap k2]; rfl
    have hbw : Below w.heap.size w w'' := hbw2.trans (k3.mono (by omega))
    rw [hpr]
    simp [Leaves, settle, results, Tryd.results7, go_sem, q1, q2, hbw]
  | true =>
    rw [hm, if_pos rfl] at he
    subst he
    have hdj : dep j ≤ 1000000 := hd
    by_cases h16 : 16 < dep j
    · have h16' : (16 : Int) < (dep j : Int) := by omega
      have hpr : prn j = ([], 41) := by unfold prn; rw [hm, if_neg (by decide), if_pos h16]
      go_wp2_with fail
      refine leaves_cons (f := 11) (args := #[.pointer (some ⟨w.heap.size + 1, 0, none⟩), .pointer (some ⟨w.heap.size + 1 + 1, 0, none⟩)]) (by simp) (by simp [go_sem]) ?_
      refine (catch11 (w.heap.size + 1) _ _ 41 0 [] w2 s9 s28).mono ?_
      rintro e u' w'' ⟨rfl, rfl, k1, k2, k3⟩
      have q1 : w''.cell? ⟨w.heap.size + 1, 0, none⟩ = some (S []) := by rw [Lib.cell_of_heap k1]; rfl
      have q2 : w''.cell? ⟨w.heap.size + 1 + 1, 0, none⟩ = some (I 41) := by rw [Lib.cell_of_heap k2]; rfl
      have hbw : Below w.heap.size w w'' := hbw2.trans (k3.mono (by omega))
      rw [hpr]
      simp [Leaves, settle, results, Tryd.results7, go_sem, q1, q2, hbw]
    · have h16' : ¬ ((16 : Int) < (dep j : Int)) := by omega
      have d0 : (w2.alloc (.cells #[.pointer none, .slice none 0 0] 46)).cell? ⟨w.heap.size, 0, none⟩ = some (I j.k) := by rw [Lib.cell_of_heap (row_old s25)]; rfl
      have d1 : (w2.alloc (.cells #[.pointer none, .slice none 0 0] 46)).cell? ⟨w.heap.size, 1, none⟩ = some (I j.n) := by rw [Lib.cell_of_heap (row_old s25)]; rfl
      have d2 : (w2.alloc (.cells #[.pointer none, .slice none 0 0] 46)).cell? ⟨w.heap.size, 2, none⟩ = some (S j.t) := by rw [Lib.cell_of_heap (row_old s25)]; rfl
      have d3 : (w2.alloc (.cells #[.pointer none, .slice none 0 0] 46)).cell? ⟨w.heap.size, 3, none⟩ = some (.slice na j.ns.length nc) := by rw [Lib.cell_of_heap (row_old s25)]; rfl
      have d4 : (w2.alloc (.cells #[.pointer none, .slice none 0 0] 46)).cell? ⟨w.heap.size, 4, none⟩ = some (.slice xa j.xs.length xc) := by rw [Lib.cell_of_heap (row_old s25)]; rfl
      have hP : Pr w2.heap.size w2.heap.size [] (w2.alloc (.cells #[.pointer none, .slice none 0 0] 46)) := by
        refine .inl ⟨Nat.le_refl _, .slice none 0 0, heap_alloc_new w2 _, ?_, by simp [Value.ownBlock]⟩
        exact World.ownsRowF_nil _ _ _ _
      have hb3 : Below w.heap.size w (w2.alloc (.cells #[.pointer none, .slice none 0 0] 46)) := hbw2.alloc hbw2.size _
      have HV := hide (value_any j na nc xa xc w w2.heap.size w2.heap.size [] _ (unhide HE) (unhide HJ) hm hb3 hbw2.size (by simp) hP (by simp))
      unfold vJ at HV
      have S9 := hide s9
      have S28 := hide s28
      have HB2 := hide hbw2
      have hlt2 : w.heap.size + 1 + 1 < w2.heap.size := (Array.getElem?_eq_some_iff.1 s28).1
      clear hP hb3 s9 s28 s25 hbw2 HD h2
      go_wp2_with fail
      refine (unhide HV).mono ?_
      rintro e w4 hq
      rcases hq.cases with ⟨hf, rfl, g1, g2, g3⟩ | ⟨hf, rfl, g2⟩
      · have hb4 : Below w2.heap.size w2 w4 := ((Below.refl _ _).alloc (Nat.le_refl _) _).trans g2
        simp only [List.nil_append] at g1
        have hpr : prn j = (pt j, 0) := by unfold prn; rw [hm, if_neg (by decide), if_neg h16, if_neg (by simpa using hf)]
        have HT := hide (str_any 46 w2.heap.size w2.heap.size (pt j) w4 g1 (by intro q; have := pt_pos j; rw [q] at this; simp at this))
        have HB4 := hide hb4
        clear g1 g2 g3 hq HV hb4
        go_wp2_with fail
        refine (unhide HT).mono ?_
        rintro e w5 ⟨rfl, h5, -⟩
        have hb5 : Below w2.heap.size w2 w5 := (unhide HB4).trans h5
        have s9 := (hb5.block _ (by omega)).trans (unhide S9)
        have s28 := (hb5.block _ (by omega)).trans (unhide S28)
        have d1 : w5.cell? ⟨w.heap.size + 1, 0, none⟩ = some (S []) := by rw [Lib.cell_of_heap s9]; rfl
        have d2 : w5.cell? ⟨w.heap.size + 1 + 1, 0, none⟩ = some (I 0) := by rw [Lib.cell_of_heap s28]; rfl
        have f1 : w5.frozen? ⟨w.heap.size + 1, 0, none⟩ = false := Lib.frozen_of_heap s9 0
        have f2 : w5.frozen? ⟨w.heap.size + 1 + 1, 0, none⟩ = false := Lib.frozen_of_heap s28 0
        have HB5 := hide ((unhide HB2).trans (hb5.mono (unhide HB2).size))
        clear hb5 h5 HT
        go_wp2_with fail
        refine leaves_cons (f := 11) (args := #[.pointer (some ⟨w.heap.size + 1, 0, none⟩), .pointer (some ⟨w.heap.size + 1 + 1, 0, none⟩)]) (by simp) (by simp [go_sem]) ?_
        refine (idle11 ⟨w.heap.size + 1, 0, none⟩ ⟨w.heap.size + 1 + 1, 0, none⟩ _).mono ?_
        rintro e u' w'' ⟨rfl, rfl, rfl⟩
        have e1 : ((w5.setCell ⟨w.heap.size + 1, 0, none⟩ (S (pt j))).setCell ⟨w.heap.size + 1 + 1, 0, none⟩ (I 0)).heap[w.heap.size + 1]? = some (.cells #[S (pt j)] 9 (0, 0)) := by
          rw [heap_setCell_other _ _ _ _ (by simp)]
          exact heap_setCell_same w5 (w.heap.size + 1) 0 _ 9 (S (pt j)) s9
        have e2 : ((w5.setCell ⟨w.heap.size + 1, 0, none⟩ (S (pt j))).setCell ⟨w.heap.size + 1 + 1, 0, none⟩ (I 0)).heap[w.heap.size + 1 + 1]? = some (.cells #[I 0] 28 (0, 0)) :=
          heap_setCell_same _ (w.heap.size + 1 + 1) 0 _ 28 (I 0) ((heap_setCell_other _ _ _ _ (by simp)).trans s28)
        have q1 : ((w5.setCell ⟨w.heap.size + 1, 0, none⟩ (S (pt j))).setCell ⟨w.heap.size + 1 + 1, 0, none⟩ (I 0)).cell? ⟨w.heap.size + 1, 0, none⟩ = some (S (pt j)) := by rw [Lib.cell_of_heap e1]; rfl
        have q2 : ((w5.setCell ⟨w.heap.size + 1, 0, none⟩ (S (pt j))).setCell ⟨w.heap.size + 1 + 1, 0, none⟩ (I 0)).cell? ⟨w.heap.size + 1 + 1, 0, none⟩ = some (I 0) := by rw [Lib.cell_of_heap e2]; rfl
        have hbw : Below w.heap.size w ((w5.setCell ⟨w.heap.size + 1, 0, none⟩ (S (pt j))).setCell ⟨w.heap.size + 1 + 1, 0, none⟩ (I 0)) := ((unhide HB5).setCell (by simp <;> omega) _).setCell (by simp <;> omega) _
        rw [hpr]
        obtain ⟨W6, hW6⟩ : ∃ W6, (w5.setCell ⟨w.heap.size + 1, 0, none⟩ (S (pt j))).setCell ⟨w.heap.size + 1 + 1, 0, none⟩ (I 0) = W6 := ⟨_, rfl⟩
        rw [hW6] at q1 q2 hbw
        simp [Leaves, settle, results, Tryd.results7, go_sem, hW6, q1, q2, hbw]
      · have hpr : prn j = ([], 44) := by unfold prn; rw [hm, if_neg (by decide), if_neg h16, if_pos (by simp at hf; omega)]
        have hb4 : Below w2.heap.size w2 w4 := ((Below.refl _ _).alloc (Nat.le_refl _) _).trans g2
        have s9 := (hb4.block _ (by omega)).trans (unhide S9)
        have s28 := (hb4.block _ (by omega)).trans (unhide S28)
        have HB4 := hide ((unhide HB2).trans (hb4.mono (unhide HB2).size))
        clear hb4 hq HV
        go_wp2_with fail
        refine leaves_cons (f := 11) (args := #[.pointer (some ⟨w.heap.size + 1, 0, none⟩), .pointer (some ⟨w.heap.size + 1 + 1, 0, none⟩)]) (by simp) (by simp [go_sem]) ?_
        refine (catch11 (w.heap.size + 1) _ _ 44 0 [] w4 s9 s28).mono ?_
        rintro e u' w'' ⟨rfl, rfl, k1, k2, k3⟩
        have q1 : w''.cell? ⟨w.heap.size + 1, 0, none⟩ = some (S []) := by rw [Lib.cell_of_heap k1]; rfl
        have q2 : w''.cell? ⟨w.heap.size + 1 + 1, 0, none⟩ = some (I 44) := by rw [Lib.cell_of_heap k2]; rfl
        have hbw : Below w.heap.size w w'' := (unhide HB4).trans (k3.mono (by omega))
        rw [hpr]
        simp [Leaves, settle, results, Tryd.results7, go_sem, q1, q2, hbw]
end Go.Proofs.YtfaahjbkdlkmjaaDoor
