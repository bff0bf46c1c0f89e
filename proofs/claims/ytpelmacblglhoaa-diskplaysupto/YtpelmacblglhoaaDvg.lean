import Derived.Test.YtpelmacblglhoaaZzax
import Derived.Test.YtpelmacblglhoaaDvf
import Derived.JoinedCond
namespace Go.Proofs.Ytpelmacblglhoaa
open Go Go.ChangeShapes Go.WideShapes Go.ChangeAt
theorem ucells3 : Try.prog.cellsOf 3 = 1 := by kernel_rfl
theorem ucells9 : Try.prog.cellsOf 9 = 1 := by kernel_rfl
theorem ucells33 : Try.prog.cellsOf 33 = 1 := by kernel_rfl
theorem ucells71 : Try.prog.cellsOf 71 = 2 := by kernel_rfl
theorem ucells35 : Try.prog.cellsOf 35 = 5 := by kernel_rfl
theorem ugetD_at {α : Type} (f : Nat → α) (d : α) (n k : Nat) (h : k < n) : ((List.range n).map f).getD k d = f k := by simp [h]
theorem bulk_one {H : Type} (d : DataW H) : 1 ≤ Rows.uptoBulk d := by
  cases d with
  | lit l => cases l <;> simp [Rows.uptoBulk]
  | nil => simp [Rows.uptoBulk]
  | ptr d => simp [Rows.uptoBulk]
  | slice elems spare => simp [Rows.uptoBulk]
  | agg parts => simp [Rows.uptoBulk]
  | iface t d => simp [Rows.uptoBulk]
  | map entries => simp [Rows.uptoBulk]
  | held h => simp [Rows.uptoBulk]
theorem bulk_len {H : Type} (l : List (DataW H)) : l.length ≤ Rows.uptoBulkAll l := by
  induction l with
  | nil => simp [Rows.uptoBulkAll]
  | cons x r ih => have := bulk_one x; simp only [Rows.uptoBulkAll, List.length_cons]; omega
theorem bulk_part {H : Type} {d : DataW H} {l : List (DataW H)} (h : d ∈ l) : Rows.uptoBulk d ≤ Rows.uptoBulkAll l := by
  induction l with
  | nil => cases h
  | cons x r ih =>
    simp only [Rows.uptoBulkAll]
    cases List.mem_cons.1 h with
    | inl e => subst e; omega
    | inr e => have := ih e; omega
theorem bulk_bound {H : Type} {l : List (DataW H)} (hk : Rows.uptoSmall H l = true) : Rows.uptoBulkAll l ≤ 1048576 := of_decide_eq_true hk
/-- What stands in a keep's two cells. -/
structure KpAt (W : World) (a : Addr) (i : Nat) (q : Kp) : Prop where
  c0 : W.cell? (a.add (i * 2)) = some (.int .i64 q.1)
  c1 : W.cell? (a.add (i * 2 + 1)) = some (.int .i64 q.2)
  r1 : -9223372036854775808 ≤ q.2 ∧ q.2 ≤ 9223372036854775807
set_option maxRecDepth 20000 in
/-- Keeps within an argument. -/
theorem open_keeps {H : Type} {enc : TypeId × Value → H} {W : World} {v : Value} {fuel : Nat} {y : DataW H × List MemPlace}
    (hf : DataW.trod enc Try.prog W 0 (fun _ => true) true fuel 33 [v] = some y) :
    ∃ (a : Option Addr) (qs : List Kp) (cap : Nat), v = .slice a qs.length cap ∧ Kls W a qs.length qs ∧ qs.length ≤ Rows.uptoBulk y.1 ∧ ∀ x ∈ qs, -9223372036854775808 ≤ x.2 ∧ x.2 ≤ 9223372036854775807 := by
  rcases Go.Deep.open_slice Try.underlying33 hf with ⟨hcs, _⟩ | ⟨x, l, c, m, n, D, Pl, hcs, _, hl, hm, hmm, hx, hel⟩
  · simp at hcs
    exact ⟨none, [], 0, hcs, ⟨rfl, fun h => absurd h (Nat.not_lt_zero _)⟩, Nat.zero_le _, fun x hx => nomatch hx⟩
  · simp at hcs
    simp only [if_true] at hmm
    subst hmm
    obtain ⟨d, ps⟩ := y
    have hd' : d = .slice ((List.range l).map D) ((List.range (m - l)).map fun j => D (l + j)) := congrArg Prod.fst hx
    subst hd'
    have each : ∀ i, i < m → ∃ q : Kp, KpAt W x i q := by
      intro i hi
      obtain ⟨cs', h1, h2⟩ := hel i hi
      rw [ucells71] at h1
      obtain ⟨_, hlen, hcell⟩ := World.cells?_some h1
      obtain ⟨xs, k, hk, hxy, _, hxl, hfs⟩ := DataW.trod_struct Try.underlying71 h2
      match xs, hxl, cs', hlen with
      | [y0, y1], _, [v0, v1], _ =>
        have g0 := hfs 0 _ rfl
        have g1 := hfs 1 _ rfl
        simp [ucells3] at g0 g1
        have e0 := hcell 0 (by omega)
        have e1 := hcell 1 (by omega)
        rw [Go.Deep.add_add] at e0 e1
        obtain ⟨z0, ez0, rfl, _⟩ := DataW.trod_int Try.underlying3 g0
        obtain ⟨z1, ez1, rfl, w1⟩ := DataW.trod_int Try.underlying3 g1
        simp only [List.cons.injEq, and_true] at ez0 ez1
        subst ez0 ez1
        exact ⟨(z0, z1), by simpa using e0, by simpa using e1, i64_of w1⟩
    have : Inhabited Kp := ⟨(0, 0)⟩
    obtain ⟨q, hq⟩ := Go.Deep.choose_lt each
    have hlen : ((List.range l).map q).length = l := by simp
    refine ⟨some x, (List.range l).map q, _, by rw [hlen]; exact hcs, ⟨rfl, fun h0 => ?_⟩, ?_, fun y hy => ?_⟩
    · rw [hlen] at h0 ⊢
      obtain ⟨b, off, spot⟩ := x
      have hspot : spot = none := by simpa [Addr.add] using World.cell?_spot (hq 0 (by omega)).c0
      subst hspot
      refine ⟨b, off, rfl, fun k hk => ?_⟩
      rw [ugetD_at q (0, 0) l k hk]
      have e0 := (hq k (by omega)).c0
      have e1 := (hq k (by omega)).c1
      rw [WideShapes.add_plain] at e0 e1
      exact ⟨e0, e1⟩
    · rw [hlen]
      have := bulk_len ((List.range l).map D)
      simp only [List.length_map, List.length_range] at this
      simp only [Rows.uptoBulk]
      omega
    · simp only [List.mem_map, List.mem_range] at hy
      obtain ⟨k, hk, rfl⟩ := hy
      exact (hq k (by omega)).r1
/-- What stands in an op's five cells. -/
structure OmAt {H : Type} (W : World) (a : Addr) (i : Nat) (D : Nat → DataW H) (q : Opm) : Prop where
  c : W.cell? (a.add (i * 5)) = some (.int .i64 q.o.kind) ∧ W.cell? (a.add (i * 5 + 1)) = some (.int .i64 q.o.on) ∧ W.cell? (a.add (i * 5 + 2)) = some (.int .i64 q.o.n) ∧ W.cell? (a.add (i * 5 + 3)) = some (S q.o.s) ∧ W.cell? (a.add (i * 5 + 4)) = some (.slice q.a q.o.ks.length q.c)
  k : Kls W q.a q.o.ks.length q.o.ks
  r : Rows.uptoBulk (D i) ≤ 1048576 → Opr q.o
set_option maxRecDepth 20000 in
/-- The script among the arguments. -/
theorem open_script {H : Type} {enc : TypeId × Value → H} {W : World} {a : Option Addr} {len cap : Nat} {d : DataW H} {ps : List MemPlace}
    (h : DataW.Trod enc Try.prog W 0 (fun _ => true) true 22 (.slice a len cap) d ps) (hb : Rows.uptoBulk d ≤ 1048576) : ∃ l : List Opm, Ols W a len l ∧ len ≤ 1048576 := by
  obtain ⟨fuel, hf⟩ := h
  rcases Go.Deep.open_slice Try.underlying22 hf with ⟨hcs, _⟩ | ⟨x, l, c, m, n, D, Pl, hcs, _, hl, hm, hmm, hx, hel⟩
  · simp [Value.cells] at hcs
    obtain ⟨rfl, rfl, rfl⟩ := hcs
    exact ⟨[], ⟨rfl, (fun x hx => by simp at hx), (fun h => absurd h (Nat.not_lt_zero _))⟩, by omega⟩
  · simp [Value.cells] at hcs
    obtain ⟨rfl, rfl, rfl⟩ := hcs
    simp only [if_true] at hmm
    subst hmm
    have hd' : d = .slice ((List.range len).map D) ((List.range (m - len)).map fun j => D (len + j)) := congrArg Prod.fst hx
    subst hd'
    have hbl := bulk_len ((List.range len).map D)
    simp only [List.length_map, List.length_range] at hbl
    have hbe : Rows.uptoBulkAll ((List.range len).map D) ≤ 1048576 := by
      simp only [Rows.uptoBulk] at hb
      omega
    have hbi : ∀ i, i < len → Rows.uptoBulk (D i) ≤ 1048576 := fun i hi => Nat.le_trans (bulk_part (List.mem_map.2 ⟨i, List.mem_range.2 hi, rfl⟩)) hbe
    have each : ∀ i, i < m → ∃ q : Opm, OmAt W x i D q := by
      intro i hi
      obtain ⟨cs', h1, h2⟩ := hel i hi
      rw [ucells35] at h1
      obtain ⟨_, hlen, hcell⟩ := World.cells?_some h1
      obtain ⟨xs, k, hk, hxy, _, hxl, hfs⟩ := DataW.trod_struct Try.underlying35 h2
      match xs, hxl, cs', hlen with
      | [y0, y1, y2, y3, y4], _, [v0, v1, v2, v3, v4], _ =>
        have g0 := hfs 0 _ rfl
        have g1 := hfs 1 _ rfl
        have g2 := hfs 2 _ rfl
        have g3 := hfs 3 _ rfl
        have g4 := hfs 4 _ rfl
        simp [ucells3, ucells9, ucells33] at g0 g1 g2 g3 g4
        have e0 := hcell 0 (by omega)
        have e1 := hcell 1 (by omega)
        have e2 := hcell 2 (by omega)
        have e3 := hcell 3 (by omega)
        have e4 := hcell 4 (by omega)
        rw [Go.Deep.add_add] at e0 e1 e2 e3 e4
        simp only [Prod.mk.injEq] at hxy
        obtain ⟨z0, ez0, ey0, w0⟩ := DataW.trod_int Try.underlying3 g0
        obtain ⟨z1, ez1, ey1, w1⟩ := DataW.trod_int Try.underlying3 g1
        obtain ⟨z2, ez2, ey2, w2⟩ := DataW.trod_int Try.underlying3 g2
        obtain ⟨z3, ez3, ey3, _⟩ := DataW.trod_string Try.underlying9 g3
        obtain ⟨a', qs, cap', ez4, f1, f2, f3⟩ := open_keeps g4
        simp only [List.cons.injEq, and_true] at ez0 ez1 ez2 ez3
        subst ez0 ez1 ez2 ez3 ez4
        have hD : D i = .agg [y0.1, y1.1, y2.1, y3.1, y4.1] := by simpa using hxy.1
        refine ⟨⟨⟨z0, z1, z2, z3.data.toList, qs⟩, a', cap'⟩, ⟨by simpa using e0, by simpa using e1, by simpa using e2, by simpa [S] using e3, by simpa using e4⟩, f1, fun hbd => ?_⟩
        rw [hD] at hbd
        have p3 := bulk_part (H := H) (d := y3.1) (l := [y0.1, y1.1, y2.1, y3.1, y4.1]) (by simp)
        have p4 := bulk_part (H := H) (d := y4.1) (l := [y0.1, y1.1, y2.1, y3.1, y4.1]) (by simp)
        have hs3 : z3.data.toList.length + 1 ≤ Rows.uptoBulk y3.1 := by rw [ey3]; simp [Rows.uptoBulk]
        rw [Rows.uptoBulk] at hbd
        exact ⟨i64_of w0, i64_of w1, i64_of w2, by simp only; omega, by simp only; omega, f3⟩
    have : Inhabited Opm := ⟨opz⟩
    obtain ⟨q, hq⟩ := Go.Deep.choose_lt each
    have hlen : ((List.range len).map q).length = len := by simp
    refine ⟨(List.range len).map q, ⟨hlen.symm, fun y hy => ?_, fun h0 => ?_⟩, by omega⟩
    · simp only [List.mem_map, List.mem_range] at hy
      obtain ⟨k, hk, rfl⟩ := hy
      exact ⟨(hq k (by omega)).r (hbi k hk), (hq k (by omega)).k⟩
    · obtain ⟨b, off, spot⟩ := x
      have hspot : spot = none := by simpa [Addr.add] using World.cell?_spot (hq 0 (by omega)).c.1
      subst hspot
      refine ⟨b, off, rfl, fun k hk => ?_⟩
      rw [ugetD_at q opz len k hk]
      obtain ⟨e0, e1, e2, e3, e4⟩ := (hq k (by omega)).c
      rw [WideShapes.add_plain] at e0 e1 e2 e3 e4
      exact ⟨e0, e1, e2, e3, e4⟩
end Go.Proofs.Ytpelmacblglhoaa
namespace Go.Proofs.Ytpelmacblglhoaa.diskPlays
open Go.ChangeShapes Go.WideShapes Go.ChangeAt Go.RowKit
set_option linter.unusedVariables false
set_option maxHeartbeats 4000000
set_option maxRecDepth 100000 in
theorem contract (H : Type) (enc : TypeId × Value → H) (W : World) (base : Nat) (args : Array Value) (ds gs : List (DataW H)) (before : List MemPlace)
    (hval : ∀ (j : Nat) t v, Try.f3.params[j]? = some t → args[j]? = some v → Value.okWide Try.prog W .any base t v)
    (hW : DataW.Whole enc Try.prog Try.f3.params.toList Rows.diskPlaysSpec.vars false W args.toList ds gs before) (hk : Rows.uptoSmall H (ds ++ gs) = true) :
    Calls Try.prog 3 args W fun e W' => ∃ v, e = .returned v ∧ Rows.diskPlaysSpec.post enc Try.prog Try.f3 false true false false W args v W' := by
  have hW' := hW
  obtain ⟨p, q, hA0, hV, rfl, hfz, hnd⟩ := hW
  have hA : DataW.TrodAll enc Try.prog W 0 (fun _ => true) true Try.f3.params.toList args.toList ds p := hA0
  rw [Try.params3] at hA hval
  obtain ⟨v0, vs0, d0, ds0, p0, q0, hargs, rfl, rfl, h0, r0⟩ := trodAll_cons hA
  obtain ⟨v1, vs1, d1, ds1, p1, q1, rfl, rfl, rfl, h1, r1⟩ := trodAll_cons r0
  obtain ⟨rfl, rfl, rfl⟩ := trodAll_nil r1
  obtain rfl : args = #[v0, v1] := by cases args; simp_all
  obtain ⟨rfl, rfl⟩ := trodVars_none hV
  obtain ⟨z0, rfl⟩ := okWide_int Try.underlying3 (hval 0 3 v0 rfl rfl)
  obtain ⟨z0', ez0, _, _, hwf0⟩ := open_int Try.underlying3 (hval 0 3 _ rfl rfl) h0
  cases ez0
  obtain ⟨a1, len1, cap1, rfl⟩ := okWide_slice Try.underlying22 (hval 1 22 v1 rfl rfl)
  have k0 := h0
  have lt0 : ∀ x ∈ p0, x.block < W.heap.size := by obtain ⟨m, hm⟩ := k0; exact DataW.trod_lt m _ _ _ hm
  have k1 := h1
  have lt1 : ∀ x ∈ p1, x.block < W.heap.size := by obtain ⟨m, hm⟩ := k1; exact DataW.trod_lt m _ _ _ hm
  have hb := bulk_bound hk
  have hb1 : Rows.uptoBulk d1 ≤ 1048576 := Nat.le_trans (bulk_part (List.mem_append.2 (.inl (List.mem_cons_of_mem _ (List.mem_cons_self ..))))) hb
  obtain ⟨l, hl, hn⟩ := open_script h1 hb1
  clear hA0
  refine Calls.mono (show Calls Try.prog 3 #[.int .i64 z0, .slice a1 len1 cap1] W _ from plays_any z0 a1 len1 cap1 l W (i64_of hwf0) hl (by omega)) fun e W' ⟨he, bel⟩ => ?_
  subst he
  exact ⟨_, rfl, _, _, _, [], _, [], hW', trodAll_mk1 (shut_bool Try.underlying4 _), (trodAll_cons_mk (Below.trod laidOut (by kernel_rfl) (of_decide_eq_true (by kernel_rfl)) k0 bel lt0) (trodAll_cons_mk (Below.trod laidOut (by kernel_rfl) (of_decide_eq_true (by kernel_rfl)) k1 bel lt1) trodAll_mk0)), rfl, bel.frame _, fun h => by cases h⟩
set_option maxRecDepth 100000 in
theorem lifted (os : Os) (started : os.Started) (H : Type) (enc : TypeId × Value → H) (F : Stop.Interp) :
    ReturnsInHanded {} Try.checked os 3 .any ((Rows.OpenSpec.upto Rows.diskPlaysSpec).pre6 enc Try.prog Try.f3 Rows.diskPlaysUptoRow.domain false) (((Rows.OpenSpec.upto Rows.diskPlaysSpec).at F).post enc Try.prog Try.f3 false true false false) := by
  refine returnsInHanded_of_cond (C := Try.checked) (s := Rows.OpenSpec.upto Rows.diskPlaysSpec) (k := Rows.uptoSmall) rfl own started (by kernel_rfl) Try.func3
    (OpenSpec.witness (enc := enc) (C := Try.checked) (s := Rows.OpenSpec.upto Rows.diskPlaysSpec) (k := Rows.uptoSmall) rfl false ⟨#[], #[.int .i64 0, .slice none 0 0], []⟩ 8 (by kernel_rfl) (by kernel_rfl) (by kernel_rfl)
      (x := ([.lit (.int .i64 0), .nil], [], [])) (by kernel_rfl) rfl (by kernel_rfl)) ?_
  intro W base args ds gs before hval hW _ hk _
  exact contract H enc W base args ds gs before hval hW hk
theorem over : Rows.diskPlaysUptoRow.holds Try.pinned (Rows.OpenSpec.upto Rows.diskPlaysSpec) :=
  OpenClaim.holds_of_cond 3 Try.f3 rfl rfl rfl rfl rfl rfl rfl ⟨rfl, rfl, rfl, rfl, rfl⟩ rfl rfl rfl rfl rfl (by kernel_rfl) Try.func3 (by kernel_rfl)
    (of_decide_eq_true (by kernel_rfl)) (by unfold Func.isWrapper; first | (rw [if_pos (by decide +kernel)]; kernel_rfl) | (rw [if_neg (by decide +kernel)]; exact ⟨rfl, rfl⟩))
    (fun os started H enc _ F => lifted os started H enc F)
end Go.Proofs.Ytpelmacblglhoaa.diskPlays
namespace Go.Proofs.Ytpelmacblglhoaa
theorem diskPlays_upto : Rows.DiskPlaysUptoSaid := diskPlays.over
end Go.Proofs.Ytpelmacblglhoaa
