import Derived.Test.YtfaahjbkdlkmjaaDoorJeu
/- Jot: Parse, whole. -/
namespace Go.Proofs.YtfaahjbkdlkmjaaDoor
open Go Go.RowKit Go.Lib
set_option linter.unusedVariables false
set_option linter.unusedSimpArgs false
theorem results8_of {w : World} {g : Nat} {cs : Array Value} {f h : Value} (hn : cs.size = 5) (h1 : w.heap[g]? = some (.cells cs 25 (0, 0))) (h2 : w.heap[g + 1]? = some (.cells #[f] 28 (0, 0))) (h3 : w.heap[g + 2]? = some (.cells #[h] 3 (0, 0))) (tm : Array Value)
    (p1 : tm.getD 2 undef = .pointer (some ⟨g, 0, none⟩)) (p2 : tm.getD 3 undef = .pointer (some ⟨g + 1, 0, none⟩)) (p3 : tm.getD 4 undef = .pointer (some ⟨g + 2, 0, none⟩)) :
    (results Tryd.f8 tm).run Tryd.prog w = .ok (.tuple #[.agg cs, f, h]) w := by
  have c2 : w.cell? ⟨g + 1, 0, none⟩ = some f := by rw [cell_at h2]; rfl
  have c3 : w.cell? ⟨g + 2, 0, none⟩ = some h := by rw [cell_at h3]; rfl
  have e1 := run_loadVar_row (P := Tryd.prog) w g 25 25 cs (0, 0) _ h1 Tryd.underlying25 rfl (by rw [hn]; kernel_rfl)
  have q1 : tm[2]?.getD undef = .pointer (some ⟨g, 0, none⟩) := by simpa using p1
  have q2 : tm[3]?.getD undef = .pointer (some ⟨g + 1, 0, none⟩) := by simpa using p2
  have q3 : tm[4]?.getD undef = .pointer (some ⟨g + 2, 0, none⟩) := by simpa using p3
  have e2 : (loadVar 28 ⟨g + 1, 0, none⟩).run Tryd.prog w = .ok f w := by simp [go_sem, c2]
  have e3 : (loadVar 3 ⟨g + 2, 0, none⟩).run Tryd.prog w = .ok h w := by simp [go_sem, c3]
  simp [results, Tryd.results8, q1, q2, q3, asAddr, e1, e2, e3, Sem.run_bind, Result.andThen]
theorem box7_other {w W : World} {g : Nat} {a b c d e f h : Value} (hW : W = ((((((w.setCell ⟨g, 0, none⟩ a).setCell ⟨g, 1, none⟩ b).setCell ⟨g, 2, none⟩ c).setCell ⟨g, 3, none⟩ d).setCell ⟨g, 4, none⟩ e).setCell ⟨g + 1, 0, none⟩ f).setCell ⟨g + 2, 0, none⟩ h) (k : Nat) (h1 : k ≠ g) (h2 : k ≠ g + 1) (h3 : k ≠ g + 2) : W.heap[k]? = w.heap[k]? := by
  rw [hW, heap_setCell_other _ _ _ _ h3, heap_setCell_other _ _ _ _ h2, heap_setCell_other _ _ _ _ h1, heap_setCell_other _ _ _ _ h1, heap_setCell_other _ _ _ _ h1, heap_setCell_other _ _ _ _ h1, heap_setCell_other _ _ _ _ h1]
def jz5 : Array Value := #[I 0, I 0, S [], .slice none 0 0, .slice none 0 0]
theorem env_three {w : World} (hE : Env w) : 3 ≤ w.heap.size := by
  have l2 := World.block_lt_of_cell? _ _ (hE.u8.2 0 (by omega)).1
  simp only at l2
  omega
def itz : It := ⟨jz, none, 0, none, 0⟩
theorem jp_z (w : World) : JP w none none jz := by
  show JP w none none (.mk 0 0 [] [] [])
  rw [JP]
  exact ⟨by simp, ⟨by simp, fun x hx => absurd hx (by simp), fun h => absurd h (by simp)⟩, by simp, fun h => absurd h (by simp)⟩
/-- What Parse comes to. -/
def PaO (s : Bs) (w : World) (e : Ending) (w' : World) : Prop :=
  Below w.heap.size w w' ∧ ∃ it : It, it.j = (prs s).1 ∧ e = .returned (.tuple #[it.agg, I (prs s).2.1, I (prs s).2.2]) ∧ JD w' (Ft w w') it.na it.xa it.j
theorem jd_z (w : World) (D : Nat → Prop) : JD w D none none jz := by
  show JD w D none none (.mk 0 0 [] [] [])
  rw [JD]
  exact ⟨by simp, ⟨⟨by simp, fun x hx => absurd hx (by simp), fun h => absurd h (by simp)⟩, fun h => absurd h (by simp)⟩, by simp, fun h => absurd h (by simp)⟩
theorem PaO.bad {s : Bs} {w w' : World} {E A : Int} {e : Ending} (h : prs s = (jz, E, A)) (hb : Below w.heap.size w w') (he : e = .returned (.tuple #[.agg jz5, I E, I A])) : PaO s w e w' := by
  refine ⟨hb, itz, by rw [h]; rfl, ?_, jd_z _ _⟩
  rw [h, he]
  rfl
set_option maxHeartbeats 8000000 in
set_option maxRecDepth 20000 in
theorem parse_any (s : Bs) (w : World) (hE : Env w) : Calls Tryd.prog 8 #[S s] w (PaO s w) := by
  have hmf : ∀ (fn : Fn) (first cap : Array Value) (w : World), (Instr.makeFunc fn first cap).run Tryd.prog w = .ok (.func fn first cap) w := fun _ _ _ _ => rfl
  obtain ⟨W1, hW1⟩ : ∃ W1, ((w.alloc (.cells #[I 0, I 0, S [], .slice none 0 0, .slice none 0 0] 25)).alloc (.cells #[I 0] 28)).alloc (.cells #[I 0] 3) = W1 := ⟨_, rfl⟩
  have hb1 : Below w.heap.size w W1 := by
    rw [← hW1]
    exact (((Below.refl _ _).alloc (Nat.le_refl _) _).alloc (by simp) _).alloc (by simp; omega) _
  have r25 : W1.heap[w.heap.size]? = some (.cells #[I 0, I 0, S [], .slice none 0 0, .slice none 0 0] 25 (0, 0)) := by
    rw [← hW1]
    exact row_old (row_old (heap_alloc_new w _))
  have r28 : W1.heap[w.heap.size + 1]? = some (.cells #[I 0] 28 (0, 0)) := by
    rw [← hW1]
    refine row_old ?_
    have := heap_alloc_new (w.alloc (.cells #[I 0, I 0, S [], .slice none 0 0, .slice none 0 0] 25)) (.cells #[I 0] 28)
    simpa using this
  have r3 : W1.heap[w.heap.size + 2]? = some (.cells #[I 0] 3 (0, 0)) := by
    rw [← hW1]
    have := heap_alloc_new ((w.alloc (.cells #[I 0, I 0, S [], .slice none 0 0, .slice none 0 0] 25)).alloc (.cells #[I 0] 28)) (.cells #[I 0] 3)
    simpa using this
  have hsz : W1.heap.size = w.heap.size + 3 := by rw [← hW1]; simp
  have h3 := env_three hE
  have HSZ := hide hsz
  clear hsz
  have HE := hide hE
  have HB1 := hide hb1
  have R25 := hide r25
  have R28 := hide r28
  have R3 := hide r3
  by_cases hl : 4000 < s.length
  · have hl' : (4000 : Int) < (s.length : Int) := by omega
    have HX := hide (show prs s = (jz, 44, 4000) by unfold prs; rw [if_pos hl])
    have b0 : W1.cell? ⟨w.heap.size, 0, none⟩ = some (I 0) := by rw [cell_at r25]; rfl
    have b1 : W1.cell? ⟨w.heap.size, 1, none⟩ = some (I 0) := by rw [cell_at r25]; rfl
    have b2 : W1.cell? ⟨w.heap.size, 2, none⟩ = some (S []) := by rw [cell_at r25]; rfl
    have b3 : W1.cell? ⟨w.heap.size, 3, none⟩ = some (.slice none 0 0) := by rw [cell_at r25]; rfl
    have b4 : W1.cell? ⟨w.heap.size, 4, none⟩ = some (.slice none 0 0) := by rw [cell_at r25]; rfl
    have b5 : W1.cell? ⟨w.heap.size + 1, 0, none⟩ = some (I 0) := by rw [cell_at r28]; rfl
    have b6 : W1.cell? ⟨w.heap.size + 1 + 1, 0, none⟩ = some (I 0) := by rw [cell_at r3]; rfl
    have z0 := frz r25 0
    have z1 := frz r25 1
    have z2 := frz r25 2
    have z3 := frz r25 3
    have z4 := frz r25 4
    have z5 := frz r28 0
    have z6 : W1.frozen? ⟨w.heap.size + 1 + 1, 0, none⟩ = false := frz r3 0
    clear hE hb1 r25 r28 r3
    go_enter_defers Tryd.func8, Tryd.ntmps8
    go_wp2_with fail
    clear hW1 b0 b1 b2 b3 b4 b5 b6 z0 z1 z2 z3 z4 z5 z6
    obtain ⟨W, hW, f1, f2, f3, f4⟩ := box7 (unhide R25) (unhide R28) (unhide R3) (I 0) (I 0) (S []) (.slice none 0 0) (.slice none 0 0) (I 44) (I 4000)
    rw [← hW]
    clear hW
    refine ⟨_, results8_of rfl f1 f2 f3 _ rfl rfl rfl, ?_⟩
    exact PaO.bad (unhide HX) ((unhide HB1).trans f4) rfl
  · have hl' : ¬ ((4000 : Int) < (s.length : Int)) := by omega
    obtain ⟨wP, hwP⟩ : ∃ wP, W1.alloc (.cells #[S [], I 0] 50) = wP := ⟨_, rfl⟩
    have hbP : Below W1.heap.size W1 wP := by rw [← hwP]; exact (Below.refl _ _).alloc (Nat.le_refl _) _
    have rP : wP.heap[W1.heap.size]? = some (.cells #[S [], I 0] 50 (0, 0)) := by rw [← hwP]; exact heap_alloc_new W1 _
    have b0 : wP.cell? ⟨W1.heap.size, 0, none⟩ = some (S []) := by rw [cell_at rP]; rfl
    have b1 : wP.cell? ⟨W1.heap.size, 1, none⟩ = some (I 0) := by rw [cell_at rP]; rfl
    have z0 := frz rP 0
    have z1 := frz rP 1
    obtain ⟨wQ, hwQ⟩ : ∃ wQ, (wP.setCell ⟨W1.heap.size, 0, none⟩ (S s)).setCell ⟨W1.heap.size, 1, none⟩ (I 0) = wQ := ⟨_, rfl⟩
    have rQ : wQ.heap[W1.heap.size]? = some (.cells #[S s, I 0] 50 (0, 0)) := by
      have h1 := heap_setCell_same wP W1.heap.size 0 _ 50 (S s) rP
      have h2 := heap_setCell_same _ W1.heap.size 1 _ 50 (I 0) h1
      rw [hwQ] at h2
      rw [h2]
      rfl
    have hbQ : Below W1.heap.size W1 wQ := by rw [← hwQ]; exact (hbP.setCell (p := ⟨W1.heap.size, 0, none⟩) (Nat.le_refl _) _).setCell (p := ⟨W1.heap.size, 1, none⟩) (Nat.le_refl _) _
    have hs1 := unhide HSZ
    have HRA := hide (show RAt W1.heap.size s s wQ from ⟨⟨0, rQ, Nat.zero_le _, rfl⟩, by omega⟩)
    have HWH := hide (whole_any W1.heap.size s s wQ (unhide HRA) (hE.below (hb1.trans (hbQ.mono hb1.size))) (by omega))
    have hlq : W1.heap.size < wQ.heap.size := lt_of_row rQ
    have q25 := hide ((hbQ.block _ (lt_of_row r25)).trans r25)
    have q28 := hide ((hbQ.block _ (lt_of_row r28)).trans r28)
    have q3 := hide ((hbQ.block _ (lt_of_row r3)).trans r3)
    have HBQ := hide (hb1.trans (hbQ.mono hb1.size))
    have HSQ := hide hs1
    have HLQ := hide hlq
    clear hE hb1 r25 r28 r3 rP hbP rQ hbQ hs1 hlq
    go_enter_defers Tryd.func8, Tryd.ntmps8
    go_wp2_with fail
    clear hW1 hwP hwQ b0 b1 z0 z1
    refine (unhide HWH).mono ?_
    rintro e w3 ⟨o3, he⟩
    have k25 := (o3.block w.heap.size (by have := unhide HLQ; have := unhide HSQ; omega) (by have := unhide HSQ; omega)).trans (unhide q25)
    have k28 := (o3.block (w.heap.size + 1) (by have := unhide HLQ; have := unhide HSQ; omega) (by have := unhide HSQ; omega)).trans (unhide q28)
    have k3 := (o3.block (w.heap.size + 2) (by have := unhide HLQ; have := unhide HSQ; omega) (by have := unhide HSQ; omega)).trans (unhide q3)
    have hb3 : Below w.heap.size w w3 := (unhide HBQ).trans (o3.below (by have := unhide HSQ; omega) (unhide HBQ).size)
    have hq3 := o3.size
    clear HWH HBQ q25 q28 q3 HRA o3
    cases hwh : whole s with
    | error er =>
      rw [hwh] at he
      simp only at he
      subst he
      have HX := hide (show prs s = (jz, er.1, (s.length : Int) - er.2) by unfold prs; rw [if_neg hl, hwh])
      obtain ⟨E, A⟩ := er
      simp only at HX
      have K25 := hide k25
      have K28 := hide k28
      have K3 := hide k3
      have HB3 := hide hb3
      clear k25 k28 k3 hb3 hwh
      go_wp2_with fail
      refine leaves_cons (f := 15) (args := #[.pointer (some ⟨w.heap.size, 0, none⟩), .pointer (some ⟨w.heap.size + 1, 0, none⟩), .pointer (some ⟨w.heap.size + 2, 0, none⟩)]) (by simp) (by simp [go_sem]) ?_
      refine (catch15 w.heap.size _ _ _ _ _ _ _ E ((s.length : Int) - A) [] w3 (unhide K25) (unhide K28) (unhide K3)).mono ?_
      rintro e u' w'' ⟨rfl, rfl, f1, f2, f3, f4⟩
      refine ⟨_, results8_of rfl f1 f2 f3 _ rfl rfl rfl, ?_⟩
      exact PaO.bad (unhide HX) ((unhide HB3).trans f4) rfl
    | ok v =>
      rw [hwh] at he
      obtain ⟨it, hj, rfl, hjd⟩ := he
      have HX := hide (show prs s = (v, 0, 0) by unfold prs; rw [if_neg hl, hwh])
      subst hj
      have c0 : w3.cell? ⟨w.heap.size, 0, none⟩ = some (I 0) := by rw [cell_at k25]; rfl
      have c1 : w3.cell? ⟨w.heap.size, 1, none⟩ = some (I 0) := by rw [cell_at k25]; rfl
      have c2 : w3.cell? ⟨w.heap.size, 2, none⟩ = some (S []) := by rw [cell_at k25]; rfl
      have c3 : w3.cell? ⟨w.heap.size, 3, none⟩ = some (.slice none 0 0) := by rw [cell_at k25]; rfl
      have c4 : w3.cell? ⟨w.heap.size, 4, none⟩ = some (.slice none 0 0) := by rw [cell_at k25]; rfl
      have c5 : w3.cell? ⟨w.heap.size + 1, 0, none⟩ = some (I 0) := by rw [cell_at k28]; rfl
      have c6 : w3.cell? ⟨w.heap.size + 1 + 1, 0, none⟩ = some (I 0) := by rw [cell_at k3]; rfl
      have z0 := frz k25 0
      have z1 := frz k25 1
      have z2 := frz k25 2
      have z3 := frz k25 3
      have z4 := frz k25 4
      have z5 := frz k28 0
      have z6 : w3.frozen? ⟨w.heap.size + 1 + 1, 0, none⟩ = false := frz k3 0
      have HJD := hide hjd
      have K25 := hide k25
      have K28 := hide k28
      have K3 := hide k3
      have HB3 := hide hb3
      clear k25 k28 k3 hb3 hwh hjd
      simp only [It.agg, vJ]
      go_wp2_with fail
      clear c0 c1 c2 c3 c4 c5 c6 z0 z1 z2 z3 z4 z5 z6
      obtain ⟨W, hW, f1, f2, f3, f4⟩ := box7 (unhide K25) (unhide K28) (unhide K3) (I it.j.k) (I it.j.n) (S it.j.t) (.slice it.na it.j.ns.length it.nc) (.slice it.xa it.j.xs.length it.xc) (I 0) (I 0)
      have hjw : JD W (Ft w W) it.na it.xa it.j := by
        refine JD.keep (fun k q => box7_other hW k ?_ ?_ ?_) (fun k q => ⟨?_, ?_⟩) _ (unhide HJD)
        · have := q.1; have := unhide HLQ; have := unhide HSQ; omega
        · have := q.1; have := unhide HLQ; have := unhide HSQ; omega
        · have := q.1; have := unhide HLQ; have := unhide HSQ; omega
        · have := q.1; have := unhide HLQ; have := unhide HSQ; omega
        · exact Nat.lt_of_lt_of_le q.2 f4.size
      rw [← hW]
      clear hW
      refine leaves_cons (f := 15) (args := #[.pointer (some ⟨w.heap.size, 0, none⟩), .pointer (some ⟨w.heap.size + 1, 0, none⟩), .pointer (some ⟨w.heap.size + 2, 0, none⟩)]) (by simp) (by simp [go_sem]) ?_
      refine (idle15 _ _ _ _).mono ?_
      rintro e u' w'' ⟨rfl, rfl, rfl⟩
      refine ⟨_, results8_of rfl f1 f2 f3 _ rfl rfl rfl, (unhide HB3).trans f4, it, ?_, ?_, hjw⟩
      · rw [unhide HX]
      · rw [unhide HX]; rfl
end Go.Proofs.YtfaahjbkdlkmjaaDoor
