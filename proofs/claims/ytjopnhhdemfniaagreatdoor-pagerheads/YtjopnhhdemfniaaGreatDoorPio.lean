import Derived.Test.YtjopnhhdemfniaaGreatDoorPim
namespace Go.Proofs.YtjopnhhdemfniaaGreatDoor
open Go.RowKit
set_option maxHeartbeats 8000000
set_option maxRecDepth 8000
variable {P D : Nat} {d d1 d2 : Ds} {p : Pr} {vw vl vu : Value} {w w' : World}
theorem turn_r4 {ops : Array Oper} {id : Nat} {Q : Exit → Act → World → Prop} (X Y : Nat) (W6 : World) (p : Pr) (x : Hd) (vf : Value) (e : Int) (htab : ops.toList.map (fun o => (o.op, o.dst, o.guard)) = rtn4T) (hdep : deplB rtn4D ops = true) (hac : acB ops = true)
    (a0 : Act) (hsz : 37 ≤ a0.tmps.size) (o1 : a0.tmps[1]? = some vf) (o4 : a0.tmps[4]? = some (ptr X)) (o6 : a0.tmps[6]? = some (ptr Y)) (hx : W6.heap[X]? = some (.cells #[ptr P] 57 (0, 0))) (hy : W6.heap[Y]? = some (.cells (hdc x) 123 (0, 0))) (hP : W6.heap[P]? = some (.cells (pcs D p vu) 172 (0, 0))) (hd : DAt D d vw vl W6)
    (hc : ∀ W, Below W6.heap.size W6 W → Calls Tryz.prog 194 #[ptr D, vf, I x.gen] W fun eg w' => eg = .returned (I e) ∧ DTo D vw vl d1 W w')
    (hend : ∀ W, DTo D vw vl d1 W6 W →
      Q .normal (((((((((a0.put (some 29) (ptr P)).put (some 30) (ptr P)).put (some 31) (.pointer (some ⟨P, 0 + 0, none⟩))).put (some 32) (ptr D)).put (some 33) vf).put (some 34) (.pointer (some ⟨Y, 0 + 0, none⟩))).put (some 35) (I x.gen)).put (some 36) (I e)).put (some 11) (I e)) W) : (Code.region id ops true).wp Tryz.prog Q a0 W6 := by
  have hX := hd.noB hx (by decide) (by decide) (by decide)
  have hY := hd.noB hy (by decide) (by decide) (by decide)
  have hPo := hd.noB hP (by decide) (by decide) (by decide)
  have hXl := lt_of_row hx
  have hYl := lt_of_row hy
  have hPl := lt_of_row hP
  refine rtn4 X Y P D vf x.gen e htab hdep hac a0 W6 hsz o1 o4 o6 (fun _ L W => Only (Of D vw vl) W6 W ∧ (L 7 = false → Below W6.heap.size W6 W) ∧ (L 7 = true → DTo D vw vl d1 W6 W)) ⟨(), Only.of_below (Below.refl _ _).drew, fun _ => (Below.refl _ _).drew, fun q => nomatch q⟩ ?_ ?_ ?_ ?_ ?_ ?_
  · intro i hi _ L W hW
    simp only [List.mem_cons, List.not_mem_nil, or_false] at hi
    rw [upd_ne (Ne.symm hi)]
    exact hW
  · intro _ L W hW _
    exact s_ld Tryz.isAgg57 ((cell_of_row _ _ 0 _ 57 (0, 0) ((hW.1.block _ hXl hX).trans hx)))
  · intro _ L W hW _ _
    exact s_ld Tryz.isAgg55 ((cell_of_row _ _ 0 _ 172 (0, 0) ((hW.1.block _ hPl hPo).trans hP)))
  · intro _ L W hW _ _
    exact s_ld Tryz.isAgg3 ((cell_of_row _ _ 0 _ 123 (0, 0) ((hW.1.block _ hYl hY).trans hy)))
  · intro _ L W hW hL _ _ _
    refine (hc W (hW.2.1 hL)).mono ?_
    rintro eg w' ⟨rfl, q⟩
    have q2 : DTo D vw vl d1 W6 w' := DTo.trans (Only.of_below (hW.2.1 hL)) (fun _ r => .inl r) q
    refine ⟨(), fun _ _ => rfl, rfl, q2.out, fun h => ?_, fun _ => q2⟩
    rw [upd_self] at h
    cases h
  · intro _ L W hall hW
    exact hend W (hW.2.2 (hall 7 (by omega)))
theorem turn_r7 {ops : Array Oper} {id : Nat} {Q : Exit → Act → World → Prop} (X Y Z : Nat) (W7 : World) (p : Pr) (x : Hd) (e : Int) (htab : ops.toList.map (fun o => (o.op, o.dst, o.guard)) = rtn7T) (hdep : deplB rtn7D ops = true) (hac : acB ops = true)
    (a0 : Act) (hsz : 46 ≤ a0.tmps.size) (o4 : a0.tmps[4]? = some (ptr X)) (o6 : a0.tmps[6]? = some (ptr Y)) (o8 : a0.tmps[8]? = some (ptr Z)) (hx : W7.heap[X]? = some (.cells #[ptr P] 57 (0, 0))) (hy : W7.heap[Y]? = some (.cells (hdc x) 123 (0, 0))) (hz : W7.heap[Z]? = some (.cells #[I 0] 35 (0, 0))) (hP : W7.heap[P]? = some (.cells (pcs D p vu) 172 (0, 0))) (hd : DAt D d vw vl W7)
    (hc : ∀ W, Below W7.heap.size W7 W → Calls Tryz.prog 104 #[ptr D, hda x] W fun eg w' => eg = .returned (I e) ∧ DTo D vw vl d1 W w')
    (hend : ∀ W W', DTo D vw vl d1 W7 W → W' = W.setRow Z #[I e] → W.heap[Z]? = some (.cells #[I 0] 35 (0, 0)) →
      Q .normal ((((((a0.put (some 40) (ptr P)).put (some 41) (ptr P)).put (some 42) (.pointer (some ⟨P, 0 + 0, none⟩))).put (some 43) (ptr D)).put (some 44) (hda x)).put (some 45) (I e)) W') : (Code.region id ops true).wp Tryz.prog Q a0 W7 := by
  obtain ⟨g, r, b, xn⟩ := x
  unfold hda at hend hc
  unfold hdc at hy
  simp only at hend hy hc
  have hX := hd.noB hx (by decide) (by decide) (by decide)
  have hY := hd.noB hy (by decide) (by decide) (by decide)
  have hPo := hd.noB hP (by decide) (by decide) (by decide)
  have hZo := hd.noB hz (by decide) (by decide) (by decide)
  have hXl := lt_of_row hx
  have hYl := lt_of_row hy
  have hPl := lt_of_row hP
  have hZl := lt_of_row hz
  refine rtn7 X Y Z P D g r b e xn htab hdep hac a0 W7 hsz o4 o6 o8 (fun _ L W => Only (fun k => Of D vw vl k ∨ k = Z) W7 W ∧ (L 5 = false → Below W7.heap.size W7 W) ∧ (L 5 = true → L 6 = false → DTo D vw vl d1 W7 W) ∧ (L 6 = true → L 5 = true ∧ ∃ W0, DTo D vw vl d1 W7 W0 ∧ W = W0.setRow Z #[I e] ∧ W0.heap[Z]? = some (.cells #[I 0] 35 (0, 0)))) ⟨(), Only.of_below (Below.refl _ _).drew, fun _ => (Below.refl _ _).drew, (fun q => nomatch q), (fun q => nomatch q)⟩ ?_ ?_ ?_ ?_ ?_ ?_ ?_
  · intro i hi _ L W hW
    simp only [List.mem_cons, List.not_mem_nil, or_false, not_or] at hi
    rw [upd_ne (Ne.symm hi.1), upd_ne (Ne.symm hi.2)]
    exact hW
  · intro _ L W hW _
    exact s_ld Tryz.isAgg57 ((cell_of_row _ _ 0 _ 57 (0, 0) ((hW.1.block _ hXl (fun q => q.elim hX (ne_type hx hz (by decide)))).trans hx)))
  · intro _ L W hW _ _
    exact s_ld Tryz.isAgg55 ((cell_of_row _ _ 0 _ 172 (0, 0) ((hW.1.block _ hPl (fun q => q.elim hPo (ne_type hP hz (by decide)))).trans hP)))
  · intro _ L W hW _
    exact s_ldr Tryz.isAgg123 Tryz.sizeOf123 ((hW.1.block _ hYl (fun q => q.elim hY (ne_type hy hz (by decide)))).trans hy) [I g, I r, I b, S xn] rfl rfl
  · intro _ L W hW hL _ _
    refine (hc W (hW.2.1 hL)).mono ?_
    rintro eg w' ⟨rfl, q⟩
    have q2 : DTo D vw vl d1 W7 w' := DTo.trans (Only.of_below (hW.2.1 hL)) (fun _ r => .inl r) q
    refine ⟨(), fun _ _ => rfl, rfl, q2.out.mono (fun _ _ r => .inl r), fun h => ?_, fun _ _ => q2, fun h => ?_⟩
    · rw [upd_self] at h
      cases h
    · rw [upd_ne (by decide)] at h
      rw [(hW.2.2.2 h).1] at hL
      cases hL
  · intro _ L W hW hL h5
    have q2 := hW.2.2.1 h5 hL
    have hzW : W.heap[Z]? = some (.cells #[I 0] 35 (0, 0)) := (q2.out.block _ hZl hZo).trans hz
    refine ⟨_, s_sta Tryz.sizeOf35 (o := 0) hzW (I e) rfl (by simp) (by show ∀ y ∈ [I e], y.oneCell' = true; simp [Value.oneCell']), hW.1.trans (setRow_Only _ _ _) (fun _ _ q => .inr q), fun h => ?_, fun _ h => ?_, fun _ => ⟨?_, W, q2, rfl, hzW⟩⟩
    · rw [upd_ne (by decide), h5] at h
      cases h
    · rw [upd_self] at h
      cases h
    · rw [upd_ne (by decide)]
      exact h5
  · intro _ L W hall hW
    obtain ⟨_, W0, u1, u2, u3⟩ := hW.2.2.2 (hall 6 (by omega))
    exact hend W0 W u1 u2 u3
/-- A word in a cell comes out. -/
theorem results_c1s {fn : Func} {p : Tmp} (h : fn.results = #[.cell p 35]) (tmps : Array Value) (w : World) (b : Nat) (v : Value) (ht : tmps.getD p undef = .pointer (some ⟨b, 0, none⟩)) (hv : w.cell? ⟨b, 0, none⟩ = some v) : (results fn tmps).run Tryz.prog w = .ok v w := by
  have ht' : tmps[p]?.getD undef = .pointer (some ⟨b, 0, none⟩) := by simpa using ht
  have hl : (loadVar 35 ⟨b, 0, none⟩).run Tryz.prog w = .ok v w := by
    have e := s_ld (w := w) Tryz.isAgg35 hv
    simpa [Instr.loadAt, Instr.sureAddr] using e
  simp only [results, h]
  simp [ht', asAddr, hl]
theorem wps_acts (g : Int) : ∀ (l : List Pg) (d : Ds), d.acts ≤ (wps g d l).2.acts ∧ (wps g d l).2.acts ≤ d.acts + l.length + 1
  | [], d => by have := sync_acts d; show _ ≤ d.sync.acts ∧ d.sync.acts ≤ _; simp; omega
  | x :: l, d => by
    have h0 := write_acts d x.number (x.born g).blk
    unfold wps
    split
    · simp; omega
    · have := wps_acts g l (d.write x.number (x.born g).blk)
      simp only [List.length_cons]
      omega
end Go.Proofs.YtjopnhhdemfniaaGreatDoor
