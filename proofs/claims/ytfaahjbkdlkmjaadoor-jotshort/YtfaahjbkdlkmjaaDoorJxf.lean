import Derived.Test.YtfaahjbkdlkmjaaDoorJxe
/- Jot: Get of the law's first call. -/
namespace Go.Proofs.YtfaahjbkdlkmjaaDoor
open Go Go.RowKit Go.Lib
set_option linter.unusedVariables false
set_option linter.unusedSimpArgs false
set_option maxHeartbeats 1000000 in
theorem index_hit (p q n c : Nat) (x : Bs) (w : World) (hn : 0 < n) (hx : w.cell? ⟨p, q, none⟩ = some (S x)) :
    Calls Tryd.prog 19 #[.slice (some ⟨p, q, none⟩) n c, S x] w fun e w' => e = .returned (I 0) ∧ ∃ m, w' = w.drewN m := by
  have hn' : (0 : Int) < (n : Int) := by omega
  go_enter Tryd.func19, Tryd.ntmps19
  go_wp2_with fail
  go_loopw [8] (fun i9 wr => i9 = .int .i64 0 ∧ ∃ m, wr = w.drewN m) (fun i9 _ => 0)
  case atStart => exact ⟨rfl, 0, rfl⟩
  case round =>
    obtain ⟨rfl, m, rfl⟩ := hrel
    go_wp2_with fail
    go_ret
    exact ⟨rfl, m, rfl⟩
set_option maxHeartbeats 4000000 in
set_option maxRecDepth 20000 in
theorem get_known (p q nc b o xc : Nat) (na0 : Option Addr) (nc0 : Nat) (xa0 : Option Addr) (xc0 : Nat) (w : World) (hn : w.cell? ⟨p, q, none⟩ = some (S [97]))
    (h0 : w.cell? ⟨b, o, none⟩ = some (I 3)) (h1 : w.cell? ⟨b, o + 1, none⟩ = some (I 0)) (h2 : w.cell? ⟨b, o + 2, none⟩ = some (S [])) (h3 : w.cell? ⟨b, o + 3, none⟩ = some (.slice na0 0 nc0)) (h4 : w.cell? ⟨b, o + 4, none⟩ = some (.slice xa0 0 xc0)) :
    Calls Tryd.prog 10 #[.agg #[I 6, I 0, S [], .slice (some ⟨p, q, none⟩) 2 nc, .slice (some ⟨b, o, none⟩) 2 xc], S [97]] w fun e w' =>
      e = .returned (.tuple #[.agg #[I 3, I 0, S [], .slice none 0 0, .slice none 0 0], .bool true]) ∧ Below w.heap.size w w' := by
  obtain ⟨W1, hW1⟩ : ∃ W1, (w.alloc (.cells #[I 6, I 0, S [], .slice (some ⟨p, q, none⟩) 2 nc, .slice (some ⟨b, o, none⟩) 2 xc] 25)).alloc (.cells #[I 0, I 0, S [], .slice none 0 0, .slice none 0 0] 25) = W1 := ⟨_, rfl⟩
  have hb1 : Below w.heap.size w W1 := by
    rw [← hW1]
    exact ((Below.refl _ _).alloc (Nat.le_refl _) _).alloc (by simp) _
  have r1 : W1.heap[w.heap.size]? = some (.cells #[I 6, I 0, S [], .slice (some ⟨p, q, none⟩) 2 nc, .slice (some ⟨b, o, none⟩) 2 xc] 25 (0, 0)) := by
    rw [← hW1]
    exact row_old (heap_alloc_new w _)
  have r2 : W1.heap[w.heap.size + 1]? = some (.cells #[I 0, I 0, S [], .slice none 0 0, .slice none 0 0] 25 (0, 0)) := by
    rw [← hW1]
    have := heap_alloc_new (w.alloc (.cells #[I 6, I 0, S [], .slice (some ⟨p, q, none⟩) 2 nc, .slice (some ⟨b, o, none⟩) 2 xc] 25)) (.cells #[I 0, I 0, S [], .slice none 0 0, .slice none 0 0] 25)
    simpa using this
  have hsz : W1.heap.size = w.heap.size + 2 := by rw [← hW1]; simp
  have HN := hide (cell_old hb1 hn)
  have H0 := hide (cell_old hb1 h0)
  have H1 := hide (cell_old hb1 h1)
  have H2 := hide (cell_old hb1 h2)
  have H3 := hide (cell_old hb1 h3)
  have H4 := hide (cell_old hb1 h4)
  have d0 : W1.cell? ⟨w.heap.size, 0, none⟩ = some (I 6) := cellr r1 rfl
  have d3 : W1.cell? ⟨w.heap.size, 3, none⟩ = some (.slice (some ⟨p, q, none⟩) 2 nc) := cellr r1 rfl
  have HI := hide (index_hit p q 2 nc [97] W1 (by omega) (unhide HN))
  have HB1 := hide hb1
  have R1 := hide r1
  have R2 := hide r2
  clear hb1 r1 r2 hn h0 h1 h2 h3 h4
  go_enter Tryd.func10, Tryd.ntmps10
  go_wp2_with fail
  clear hW1
  refine (unhide HI).mono ?_
  rintro e w2 ⟨rfl, m, rfl⟩
  have hb2 : Below W1.heap.size W1 (W1.drewN m) := below_drewNq (Below.refl _ _) m
  have r1 := (hb2.block _ (lt_of_row (unhide R1))).trans (unhide R1)
  have r2 := (hb2.block _ (lt_of_row (unhide R2))).trans (unhide R2)
  have h0 := cell_old hb2 (unhide H0)
  have h1 := cell_old hb2 (unhide H1)
  have h2 := cell_old hb2 (unhide H2)
  have h3 := cell_old hb2 (unhide H3)
  have h4 := cell_old hb2 (unhide H4)
  have HB := hide ((unhide HB1).trans (hb2.mono (unhide HB1).size))
  have hs2 : (W1.drewN m).heap.size = w.heap.size + 2 := hsz
  clear HI d0 d3 H0 H1 H2 H3 H4 HN R1 R2 HB1 hb2
  generalize W1.drewN m = w2 at *
  have d4 : w2.cell? ⟨w.heap.size, 4, none⟩ = some (.slice (some ⟨b, o, none⟩) 2 xc) := cellr r1 rfl
  have HC := hide (clone_leaf 3 0 [] na0 nc0 xa0 xc0 w2 (by simp))
  have R2 := hide r2
  clear r1 r2
  go_wp2_with fail
  refine (unhide HC).mono ?_
  rintro e w3 ⟨rfl, hb3⟩
  have r2 := (hb3.block _ (lt_of_row (unhide R2))).trans (unhide R2)
  have HB3 := hide ((unhide HB).trans (hb3.mono (unhide HB).size))
  have R3 := hide r2
  clear hb3 HC h0 h1 h2 h3 h4 d4 HB R2 r2
  go_wp2_with (refine st25 rfl (.tmp 4) (.tmp 30) rfl (w.heap.size + 1) (by rfl) _ (by rfl) #[I 0, I 0, S [], .slice none 0 0, .slice none 0 0] rfl rfl (unhide R3) (by simp [Value.oneCell']) ?_)
  have hr := setRow_row (vs := #[I 3, I 0, S [], .slice none 0 0, .slice none 0 0]) (unhide R3)
  have hb := bel_set (unhide HB3) (w.heap.size + 1) #[I 3, I 0, S [], .slice none 0 0, .slice none 0 0] (by omega) (unhide HB3).size
  generalize w3.setRow (w.heap.size + 1) #[I 3, I 0, S [], .slice none 0 0, .slice none 0 0] = w4 at *
  have e1 := run_loadVar_row (P := Tryd.prog) w4 (w.heap.size + 1) 25 25 #[I 3, I 0, S [], .slice none 0 0, .slice none 0 0] (0, 0) _ hr Tryd.underlying25 rfl (by kernel_rfl)
  refine bodyPost_ret (v := .tuple #[.agg #[I 3, I 0, S [], .slice none 0 0, .slice none 0 0], .bool true]) ?_ rfl ⟨rfl, hb⟩
  simp only [results, Tryd.results10]
  simp [asAddr, e1]
end Go.Proofs.YtfaahjbkdlkmjaaDoor
