import Derived.Test.YteejnfkbjdpccaaLbf
import Derived.Test.YteejnfkbjdpccaaLpc
import Derived.Lib.BufSteps
namespace Go.Proofs.Yteejnfkbjdpccaa
open Go.RowKit Go.Lib Fl
set_option maxHeartbeats 4000000
set_option maxRecDepth 8000
theorem wpList_conv {P : Program} {ops : Array Oper} {rest : List Oper} {o : Oper} {a : Act} {w : World} {Q : Exit → Act → World → Prop} (hgd : o.guard = none) (src dst : TypeId) (x : Operand) (ho : o.op = .convert src dst x)
    (v v' : Value) (hx : a.eval x = v) (hrun : (convert src dst v).run P w = .ok v' w)
    (h : wpList P ops Q rest (a.put o.dst v') w) : wpList P ops Q (o :: rest) a w :=
  wpList_plain hgd fun _ hK => by
    unfold Oper.wp execOp
    simp only [ho, hx, Sem.run_bind, hrun, Result.andThen_ok]
    exact hK _ _ h
theorem fold_push (l : List UInt8) (r : ByteArray) : (l.map fun c => (c.toNat : Int)).foldl (fun r n => r.push (UInt8.ofNat n.toNat)) r = ⟨r.data ++ l.toArray⟩ := by
  induction l generalizing r with
  | nil => simp
  | cons c l ih =>
    simp only [List.map_cons, List.foldl_cons, ih]
    simp [ByteArray.push]
/-- What lies in memory as bytes is the text of them. -/
theorem run_text (w : World) (g o len cap : Nat) (l : List UInt8) (hl : l.length = len) (h : ∀ j, j < len → w.cell? ⟨g, o + j, none⟩ = some (.int .u8 ((l.getD j 0).toNat : Int))) :
    (convert 61 9 (.slice (some ⟨g, o, none⟩) len cap)).run Try.prog w = .ok (.string ⟨l.toArray⟩) w := by
  rw [run_convert_bytes_string w 61 9 5 _ _ _ Try.underlying61 Try.underlying5 Try.underlying9]
  have hload : (loadCells ⟨g, o, none⟩ len).run Try.prog w = .ok ((l.map fun c => (c.toNat : Int)).map (Value.int .u8)).toArray w := by
    have := run_loadCells_list (P := Try.prog) w ⟨g, o, none⟩ ((l.map fun c => (c.toNat : Int)).map (Value.int .u8)) (fun j v hv => by
      have hadd : (⟨g, o, none⟩ : Addr).add j = ⟨g, o + j, none⟩ := by unfold Addr.add; split <;> simp_all
      rw [hadd]
      have hj : j < len := by
        have := (List.getElem?_eq_some_iff.1 hv).1
        simpa [hl] using this
      rw [h j hj, ← hv]
      simp [List.getElem?_map, List.getElem?_eq_getElem (by omega : j < l.length)])
    simpa [hl] using this
  rw [run_bytesToString w _ _ _ _ hload, fold_push]
  simp/-- Which of n things a raw number speaks of. -/
def pkv (c n : Int) : Int := if c < 0 then (-(c + 1)) % n else c % n
theorem pkv_lo (c n : Int) (hn : 0 < n) : 0 ≤ pkv c n := by unfold pkv; split <;> exact Int.emod_nonneg _ (by omega)
theorem pkv_hi (c n : Int) (hn : 0 < n) : pkv c n < n := by unfold pkv; split <;> exact Int.emod_lt_of_pos _ hn
theorem pick_any (c n : Int) (w : World) (c0 : -9223372036854775808 ≤ c) (c1 : c ≤ 9223372036854775807) (n0 : 0 < n) (n1 : n ≤ 9223372036854775807) :
    Calls Try.prog 11 #[I c, I n] w fun e w' => e = .returned (I (pkv c n)) ∧ w' = w := by
  have hn0 : ¬ n = 0 := by omega
  by_cases h : c < 0
  · have HP := hide (show pkv c n = (-(c + 1)) % n by unfold pkv; rw [if_pos h])
    have hm1 := Int.emod_nonneg (-(c + 1)) (show n ≠ 0 by omega)
    have hm2 := Int.emod_lt_of_pos (-(c + 1)) n0
    have ht : (-(c + 1)).tmod n = (-(c + 1)) % n := Int.tmod_eq_emod_of_nonneg (by omega)
    go_enter Try.func11, Try.ntmps11
    go_wp2
    go_ret
    refine ⟨?_, rfl⟩
    rw [unhide HP, ← ht]
    rfl
  · have HP := hide (show pkv c n = c % n by unfold pkv; rw [if_neg h])
    have hm1 := Int.emod_nonneg c (show n ≠ 0 by omega)
    have hm2 := Int.emod_lt_of_pos c n0
    have ht : c.tmod n = c % n := Int.tmod_eq_emod_of_nonneg (by omega)
    go_enter Try.func11, Try.ntmps11
    go_wp2
    go_ret
    refine ⟨?_, rfl⟩
    rw [unhide HP, ← ht]
    rfl

/-- What the law's raw numbers stand for. -/
def nv (c d : Int) : Nat := (F.div (cv (pkv c 1048576).toNat) (cv (1 + pkv d 1000).toNat)).getD 0
theorem ex_mono {v w : Nat} (h : v ≤ w) : ex v ≤ ex w := by
  unfold ex
  have := Nat.div_le_div_right (c := 8388608) h
  omega
theorem mg_log (w : Nat) : (mg w).log2 ≤ 23 := by
  by_cases h : mg w = 0
  · rw [h]; decide
  · have h1 : mg w < 2 ^ 24 := by
      unfold mg
      have := Nat.mod_lt w (show 0 < 8388608 by decide)
      have h2 : (2 : Nat) ^ 24 = 16777216 := by decide
      split <;> omega
    have := (Nat.log2_lt h (k := 24)).2 h1
    omega
theorem rn_small {m : Nat} {p : Int} (h : p + m.log2 ≤ 44) : rn m p ≤ 1442840576 := by
  by_cases hm : m = 0
  · subst hm; rw [rn_zero]; decide
  · rw [rn_eq hm]
    have h1 := kpt_le (n := m) p
    have h2 : lst m p ≤ 170 := by unfold lst; omega
    omega
theorem nv_some (c d : Int) : F.div (cv (pkv c 1048576).toNat) (cv (1 + pkv d 1000).toNat) = some (nv c d) ∧ nv c d ≤ 1442840576 := by
  have hc0 := pkv_lo c 1048576 (by decide)
  have hc1 := pkv_hi c 1048576 (by decide)
  have hd0 := pkv_lo d 1000 (by decide)
  have hd1 := pkv_hi d 1000 (by decide)
  have hx : cv (pkv c 1048576).toNat ≤ cv 1048576 := cv_mono (by omega)
  have hy : cv 1 ≤ cv (1 + pkv d 1000).toNat := cv_mono (by omega)
  have hy2 : cv (1 + pkv d 1000).toNat < 2139095040 := cv_lt (by omega)
  have e1 : cv 1048576 = 1233125376 := by decide
  have e2 : cv 1 = 1065353216 := by decide
  unfold nv
  generalize cv (pkv c 1048576).toNat = x at *
  generalize cv (1 + pkv d 1000).toNat = y at *
  obtain ⟨m, p, h1, h2⟩ := div_some (x := x) (y := y) (by omega) hy2 (by omega)
  rw [h1]
  refine ⟨rfl, rn_small ?_⟩
  have h3 := ex_mono (show x ≤ 1233125376 by omega)
  have h4 := ex_mono (show 1065353216 ≤ y by omega)
  have h5 : ex 1233125376 = 146 := by decide
  have h6 : ex 1065353216 = 126 := by decide
  have h7 := mg_log x
  omega
theorem near_any (c d : Int) (w : World) (c0 : -9223372036854775808 ≤ c) (c1 : c ≤ 9223372036854775807) (d0 : -9223372036854775808 ≤ d) (d1 : d ≤ 9223372036854775807) :
    Calls Try.prog 18 #[I c, I d] w fun e w' => e = .returned (fl (nv c d)) ∧ w' = w := by
  have H1 := hide (fun W => pick_any c 1048576 W c0 c1 (by decide) (by decide))
  have H2 := hide (fun W => pick_any d 1000 W d0 d1 (by decide) (by decide))
  have hc0 := pkv_lo c 1048576 (by decide)
  have hc1 := pkv_hi c 1048576 (by decide)
  have hd0 := pkv_lo d 1000 (by decide)
  have hd1 := pkv_hi d 1000 (by decide)
  have HD := fun W => run_float_arith (P := Try.prog) W .quo 37 .f32 _ _ _ (nv_some c d).1
  have e1 := conv_eq (pkv c 1048576).toNat
  have e2 := conv_eq (1 + pkv d 1000).toNat
  rw [show (((pkv c 1048576).toNat : Nat) : Int) = pkv c 1048576 by omega] at e1
  rw [show (((1 + pkv d 1000).toNat : Nat) : Int) = 1 + pkv d 1000 by omega] at e2
  generalize nv c d = V at *
  generalize pkv c 1048576 = x at *
  generalize pkv d 1000 = y at *
  generalize cv x.toNat = X at *
  generalize cv (1 + y).toNat = Y at *
  go_enter Try.func18, Try.ntmps18
  go_wp2_with fail
  refine (unhide H1 _).mono ?_
  rintro e w1 ⟨rfl, rfl⟩
  go_wp2_with fail
  refine (unhide H2 _).mono ?_
  rintro e w2 ⟨rfl, rfl⟩
  go_wp2_with fail
  go_ret
  exact ⟨rfl, rfl⟩
def nmv (c : Int) : Bs := [110, UInt8.ofNat (97 + c.toNat)]
theorem name_any (c : Int) (t : Bs) (w : World) (c0 : -9223372036854775808 ≤ c) (c1 : c ≤ 9223372036854775807) :
    Calls Try.prog 12 #[I c, S t] w fun e w' => e = .returned (S (if 20 ≤ c then t else nmv (pkv c 20))) ∧ Below w.heap.size w w' := by
  by_cases h : 20 ≤ c
  · rw [if_pos h]
    go_enter Try.func12, Try.ntmps12
    go_wp2
    go_ret
    exact ⟨rfl, Below.refl _ _⟩
  · rw [if_neg h]
    have H1 := hide (fun W => pick_any c 20 W c0 c1 (by decide) (by decide))
    have hc0 := pkv_lo c 20 (by decide)
    have hc1 := pkv_hi c 20 (by decide)
    have h1 : (97 + pkv c 20) = ((UInt8.ofNat (97 + (pkv c 20).toNat)).toNat : Int) := by rw [UInt8.toNat_ofNat']; omega
    have h2 := (UInt8.ofNat (97 + (pkv c 20).toNat)).toNat_lt
    have hz := heap_alloc_new w (.cells #[.int .u8 ((UInt8.ofNat (97 + (pkv c 20).toNat)).toNat : Int)] 5)
    have HB := hide ((Below.refl w.heap.size w).alloc (Nat.le_refl _) (.cells #[.int .u8 ((UInt8.ofNat (97 + (pkv c 20).toNat)).toNat : Int)] 5))
    have HT := hide (run_text (w.alloc (.cells #[.int .u8 ((UInt8.ofNat (97 + (pkv c 20).toNat)).toNat : Int)] 5)) w.heap.size 0 1 1 [UInt8.ofNat (97 + (pkv c 20).toNat)] rfl (by
      intro j hj
      rw [Nat.zero_add, cell_of_row _ _ j _ 5 (0, 0) hz]
      match j, hj with
      | 0, _ => rfl))
    have HE := hide (show nmv (pkv c 20) = [110, UInt8.ofNat (97 + (pkv c 20).toNat)] from rfl)
    clear hz
    generalize UInt8.ofNat (97 + (pkv c 20).toNat) = a at *
    generalize pkv c 20 = x at *
    go_enter Try.func12, Try.ntmps12
    go_wp2_with (first
      | (refine (unhide H1 _).mono ?_; rintro e w1 ⟨rfl, rfl⟩)
      | (refine wpList_conv rfl 61 9 (.tmp 12) rfl _ _ (by rfl) (unhide HT) ?_))
    go_ret
    refine ⟨?_, unhide HB⟩
    rw [unhide HE]
    rfl
end Go.Proofs.Yteejnfkbjdpccaa
