import Derived.Test.YtfaahjbkdlkmjaaDoorJxc
/- Jot: Same, of any two values. -/
namespace Go.Proofs.YtfaahjbkdlkmjaaDoor
open Go Go.RowKit Go.Lib
set_option linter.unusedVariables false
set_option linter.unusedSimpArgs false
set_option maxHeartbeats 8000000 in
set_option maxRecDepth 20000 in
theorem same_step (k n : Int) (t : Bs) (ns : List Bs) (xs : List J) (IH : ∀ x ∈ xs, SmC x) : SmC (.mk k n t ns xs) := by
  rintro ⟨k2, n2, t2, ns2, ys⟩ na nc xa xc na2 nc2 xa2 xc2 w hj hj2
  rw [JP] at hj hj2
  obtain ⟨ht, hn, hx, hxs⟩ := hj
  obtain ⟨ht2, hn2, hx2, hxs2⟩ := hj2
  show Calls Tryd.prog 9 #[vJ k n t na ns.length nc xa xs.length xc, vJ k2 n2 t2 na2 ns2.length nc2 xa2 ys.length xc2] w _
  obtain ⟨W1, hW1⟩ : ∃ W1, (w.alloc (.cells #[I k, I n, S t, .slice na ns.length nc, .slice xa xs.length xc] 25)).alloc (.cells #[I k2, I n2, S t2, .slice na2 ns2.length nc2, .slice xa2 ys.length xc2] 25) = W1 := ⟨_, rfl⟩
  have hb1 : Below w.heap.size w W1 := by
    rw [← hW1]
    exact ((Below.refl _ _).alloc (Nat.le_refl _) _).alloc (by simp) _
  have r1 : W1.heap[w.heap.size]? = some (.cells #[I k, I n, S t, .slice na ns.length nc, .slice xa xs.length xc] 25 (0, 0)) := by
    rw [← hW1]
    exact row_old (heap_alloc_new w _)
  have r2 : W1.heap[w.heap.size + 1]? = some (.cells #[I k2, I n2, S t2, .slice na2 ns2.length nc2, .slice xa2 ys.length xc2] 25 (0, 0)) := by
    rw [← hW1]
    have := heap_alloc_new (w.alloc (.cells #[I k, I n, S t, .slice na ns.length nc, .slice xa xs.length xc] 25)) (.cells #[I k2, I n2, S t2, .slice na2 ns2.length nc2, .slice xa2 ys.length xc2] 25)
    simpa using this
  have a0 : W1.cell? ⟨w.heap.size, 0, none⟩ = some (I k) := by rw [cell_at r1]; rfl
  have a1 : W1.cell? ⟨w.heap.size, 1, none⟩ = some (I n) := by rw [cell_at r1]; rfl
  have a2 : W1.cell? ⟨w.heap.size, 2, none⟩ = some (S t) := by rw [cell_at r1]; rfl
  have a3 : W1.cell? ⟨w.heap.size, 3, none⟩ = some (.slice na ns.length nc) := by rw [cell_at r1]; rfl
  have b0 : W1.cell? ⟨w.heap.size + 1, 0, none⟩ = some (I k2) := by rw [cell_at r2]; rfl
  have b1 : W1.cell? ⟨w.heap.size + 1, 1, none⟩ = some (I n2) := by rw [cell_at r2]; rfl
  have b2 : W1.cell? ⟨w.heap.size + 1, 2, none⟩ = some (S t2) := by rw [cell_at r2]; rfl
  have b3 : W1.cell? ⟨w.heap.size + 1, 3, none⟩ = some (.slice na2 ns2.length nc2) := by rw [cell_at r2]; rfl
  have HE := hide (equal_names na nc ns na2 nc2 ns2 W1 (hn.keep hb1) (hn2.keep hb1))
  have HB1 := hide hb1
  have R1 := hide r1
  have R2 := hide r2
  have HIH := hide IH
  have HX := hide hxs
  have HX2 := hide hxs2
  clear hb1 r1 r2 IH hxs hxs2 hn hn2
  unfold vJ
  by_cases hk : k = k2
  · subst hk
    by_cases hn : n = n2
    · subst hn
      by_cases ht : t = t2
      · subst ht
        go_enter Tryd.func9, Tryd.ntmps9
        go_wp2_with fail
        clear hW1 a0 a1 a2 a3 b0 b1 b2 b3
        refine (unhide HE).mono ?_
        rintro e w2 ⟨rfl, h2⟩
        have r1 := (h2.block _ (lt_of_row (unhide R1))).trans (unhide R1)
        have r2 := (h2.block _ (lt_of_row (unhide R2))).trans (unhide R2)
        have hb2 := (unhide HB1).trans (h2.mono (unhide HB1).size)
        have a4 : w2.cell? ⟨w.heap.size, 4, none⟩ = some (.slice xa xs.length xc) := by rw [cell_at r1]; rfl
        have b4 : w2.cell? ⟨w.heap.size + 1, 4, none⟩ = some (.slice xa2 ys.length xc2) := by rw [cell_at r2]; rfl
        by_cases hns : ns = ns2
        · subst hns
          have HQ := hide (equalf_any xs ys (unhide HIH) xa xc xa2 xc2 w2 hx
            (fun h0 => by obtain ⟨b, o, e, h⟩ := unhide HX h0; exact ⟨b, o, e, JsP.keep hb2 xs h⟩) hx2
            (fun h0 => by obtain ⟨b, o, e, h⟩ := unhide HX2 h0; exact ⟨b, o, e, JsP.keep hb2 ys h⟩))
          have hf : eqJ (.mk k n t ns xs) (.mk k n t ns ys) = eqL xs ys := by rw [eqJ]; simp
          have HF := hide hf
          have HB2 := hide hb2
          clear hf hb2 h2 r1 r2 HE HX HX2 HIH R1 R2 HB1
          rw [decide_eq_true rfl]
          go_wp2_with fail
          refine (unhide HQ).mono ?_
          rintro e w3 ⟨rfl, h3⟩
          have HB3 := hide ((unhide HB2).trans (h3.mono (unhide HB2).size))
          clear h3 HQ HB2 a4 b4
          go_wp2_with fail
          go_ret
          exact ⟨by rw [unhide HF] <;> rfl, unhide HB3⟩
        · have hf : eqJ (.mk k n t ns xs) (.mk k n t ns2 ys) = false := by rw [eqJ]; simp [hns]
          have HF := hide hf
          have HB2 := hide hb2
          clear hf hb2 h2 r1 r2 HE HX HX2 HIH R1 R2 HB1 a4 b4
          rw [decide_eq_false hns]
          go_wp2_with fail
          go_ret
          exact ⟨by rw [unhide HF] <;> rfl, unhide HB2⟩
      · have hf : eqJ (.mk k n t ns xs) (.mk k n t2 ns2 ys) = false := by rw [eqJ]; simp [ht]
        have HF := hide hf
        go_enter Tryd.func9, Tryd.ntmps9
        go_wp2_with fail
        go_ret
        exact ⟨by rw [unhide HF] <;> rfl, unhide HB1⟩
    · have hf : eqJ (.mk k n t ns xs) (.mk k n2 t2 ns2 ys) = false := by rw [eqJ]; simp [hn]
      have HF := hide hf
      go_enter Tryd.func9, Tryd.ntmps9
      go_wp2_with fail
      go_ret
      exact ⟨by rw [unhide HF] <;> rfl, unhide HB1⟩
  · have hf : eqJ (.mk k n t ns xs) (.mk k2 n2 t2 ns2 ys) = false := by rw [eqJ]; simp [hk]
    have HF := hide hf
    go_enter Tryd.func9, Tryd.ntmps9
    go_wp2_with fail
    go_ret
    exact ⟨by rw [unhide HF] <;> rfl, unhide HB1⟩
mutual
theorem same_all : ∀ x : J, SmC x
  | .mk k n t ns xs => same_step k n t ns xs (same_allL xs)
theorem same_allL : ∀ (l : List J), ∀ x ∈ l, SmC x
  | [], x, h => absurd h (by simp)
  | y :: l, x, h => by
    rcases List.mem_cons.1 h with h | h
    · rw [h]
      exact same_all y
    · exact same_allL l x h
end
end Go.Proofs.YtfaahjbkdlkmjaaDoor
