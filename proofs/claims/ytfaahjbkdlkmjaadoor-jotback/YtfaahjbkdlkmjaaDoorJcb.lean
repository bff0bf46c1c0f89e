import Derived.Test.YtfaahjbkdlkmjaaDoorJca
import Derived.Deep.LoopGhost
/- Jot: order of texts; may an object be; is a part empty. -/
namespace Go.Proofs.YtfaahjbkdlkmjaaDoor
open Go Go.RowKit Go.Lib
set_option linter.unusedVariables false
set_option linter.unusedSimpArgs false
theorem less_eq : ∀ (x y : List UInt8), Op.bytesLess x y = decide (x < y)
  | [], [] => by simp [Op.bytesLess]
  | [], _ :: _ => by simp [Op.bytesLess]
  | _ :: _, [] => by simp [Op.bytesLess]
  | a :: x, b :: y => by
    rw [Op.bytesLess, less_eq x y, Bool.eq_iff_iff]
    simp [List.cons_lt_cons_iff]
theorem le_or (x y : Bs) : (Op.bytesLess x y || x == y) = decide (¬ y < x) := by
  rw [less_eq, Bool.eq_iff_iff]
  simp only [Bool.or_eq_true, decide_eq_true_eq, beq_iff_eq]
  constructor
  · rintro (h | rfl) h2
    · exact lt_irrefl' _ (lt_trans' h h2)
    · exact lt_irrefl' _ h2
  · intro h
    rcases Decidable.em (x = y) with q | q
    · exact .inr q
    · exact .inl (lt_total' h (fun e => q e.symm))
theorem run_lss (x y : Bs) (W : World) : (binOp .lss 9 (S x) (S y)).run Tryd.prog W = .ok (.bool (decide (x < y))) W := by
  rw [← less_eq x y]
  simp [binOp, Op.stringOp]
theorem run_leq (x y : Bs) (W : World) : (binOp .leq 9 (S x) (S y)).run Tryd.prog W = .ok (.bool (decide (¬ y < x))) W := by
  rw [← le_or x y]
  simp [binOp, Op.stringOp]
theorem run_gtr (x y : Bs) (W : World) : (binOp .gtr 9 (S x) (S y)).run Tryd.prog W = .ok (.bool (decide (y < x))) W := by
  have e : decide (y < x) = !decide (¬ y < x) := by by_cases h : y < x <;> simp [h]
  rw [e, ← le_or x y]
  simp [binOp, Op.stringOp]
theorem run_geq (x y : Bs) (W : World) : (binOp .geq 9 (S x) (S y)).run Tryd.prog W = .ok (.bool (decide (¬ x < y))) W := by
  have e : decide (¬ x < y) = !decide (x < y) := by by_cases h : x < y <;> simp [h]
  rw [e, ← less_eq x y]
  simp [binOp, Op.stringOp]
theorem run_eql (x y : Bs) (W : World) : (binOp .eql 9 (S x) (S y)).run Tryd.prog W = .ok (.bool (decide (x = y))) W := by
  have e : decide (x = y) = (x == y) := by by_cases h : x = y <;> simp [h]
  rw [e]
  simp [binOp, Op.stringOp]
theorem rise_of_get {l : List Bs} (h : ∀ i, (hi : i + 1 < l.length) → l[i] < l[i+1]) : rise l = true := by
  induction l with
  | nil => rfl
  | cons a r ih =>
    cases r with
    | nil => rfl
    | cons b r =>
      simp only [rise, Bool.and_eq_true, decide_eq_true_eq]
      refine ⟨by simpa using h 0 (by simp), ih fun i hi => ?_⟩
      have := h (i+1) (by simp only [List.length_cons] at hi ⊢; omega)
      simpa using this
theorem get_of_rise {l : List Bs} (h : rise l = true) (i : Nat) (hi : i + 1 < l.length) : l[i] < l[i+1] :=
  List.pairwise_iff_getElem.1 ((rise_iff l).1 h) i (i+1) (by omega) hi (by omega)
theorem rise_next {l : List Bs} (k : Nat) (hk : k + 1 < l.length) (h : rise (l.take (k + 1)) = true) (hl : l.getD k [] < l.getD (k + 1) []) : rise (l.take (k + 2)) = true := by
  refine rise_of_get fun i hi => ?_
  simp only [List.length_take] at hi
  simp only [List.getElem_take]
  by_cases e : i = k
  · subst e
    rw [List.getD_eq_getElem?_getD, List.getD_eq_getElem?_getD, List.getElem?_eq_getElem (by omega), List.getElem?_eq_getElem hk] at hl
    exact hl
  · have := get_of_rise h i (by simp only [List.length_take]; omega)
    simpa using this
theorem rise_bad {l : List Bs} (k : Nat) (hk : k + 1 < l.length) (hl : ¬ l.getD k [] < l.getD (k + 1) []) : rise l = false := by
  rw [Bool.eq_false_iff]
  intro q
  apply hl
  have := get_of_rise q k hk
  rw [List.getD_eq_getElem?_getD, List.getD_eq_getElem?_getD, List.getElem?_eq_getElem (by omega), List.getElem?_eq_getElem hk]
  exact this
theorem rise_one (l : List Bs) : rise (l.take 1) = true := by
  cases l with
  | nil => rfl
  | cons a r => rfl
theorem rise_take {l : List Bs} (h : rise l = true) (k : Nat) : rise (l.take k) = true := by
  rw [rise_iff] at h ⊢
  exact h.sublist (List.take_sublist k l)

theorem all_take_succ (p : Bs → Bool) (l : List Bs) (k : Nat) (h : k < l.length) : (l.take (k + 1)).all p = ((l.take k).all p && p (l.getD k [])) := by
  rw [List.take_succ_eq_append_getElem h, List.all_append]
  simp [List.getD, h]
theorem all_bad (p : Bs → Bool) (l : List Bs) (k : Nat) (h : k < l.length) (hp : p (l.getD k []) = false) : l.all p = false := by
  rw [Bool.eq_false_iff]
  intro q
  have e : l.getD k [] = l[k] := by simp [List.getD, h]
  rw [List.all_eq_true] at q
  rw [e, q _ (List.getElem_mem h)] at hp
  cases hp
/-- may an object's names be? -/
def nmsOK (ns : List Bs) (m : Nat) : Bool := ns.all validD && rise ns && decide (ns.length = m)
set_option maxHeartbeats 4000000 in
set_option maxRecDepth 20000 in
theorem may110 (na : Option Addr) (ns : List Bs) (nc : Nat) (xa : Option Addr) (xl xc : Nat) (w : World) (hE : Env w) (hn : Nms w na ns) (hx : xl ≤ 9223372036854775807) :
    Calls Tryd.prog 110 #[.agg #[.slice na ns.length nc, .slice xa xl xc]] w fun e w' => e = .returned (.bool (nmsOK ns xl)) ∧ Below w.heap.size w w' := by
  obtain ⟨W1, hW1⟩ : ∃ W1, w.alloc (.cells #[.slice na ns.length nc, .slice xa xl xc] 61) = W1 := ⟨_, rfl⟩
  have hb1 : Below w.heap.size w W1 := by rw [← hW1]; exact (Below.refl _ _).alloc (Nat.le_refl _) _
  have hr1 : W1.heap[w.heap.size]? = some (.cells #[.slice na ns.length nc, .slice xa xl xc] 61 (0, 0)) := by rw [← hW1]; exact heap_alloc_new w _
  have c0 : W1.cell? ⟨w.heap.size, 0, none⟩ = some (.slice na ns.length nc) := by rw [Lib.cell_of_heap hr1]; rfl
  have c1 : W1.cell? ⟨w.heap.size, 1, none⟩ = some (.slice xa xl xc) := by rw [Lib.cell_of_heap hr1]; rfl
  have hlt1 : w.heap.size < W1.heap.size := (Array.getElem?_eq_some_iff.1 hr1).1
  have hlen := hn.1
  have hxx := hx
  have hE1 := hE.below hb1
  have HN1 := hide (hn.keep hb1)
  have HE1 := hide hE1
  have HB1 := hide hb1
  clear hE hn hE1 hb1 hr1
  go_enter Tryd.func110, Tryd.ntmps110
  go_wp2_with fail
  clear hW1
  have RC0 := hide c0
  have RC1 := hide c1
  clear c0 c1
  go_loopw [8] (fun i9 wr => ∃ k : Nat, i9 = .int .i64 k ∧ k ≤ ns.length ∧ (ns.take k).all validD = true ∧ rise (ns.take k) = true ∧ Below W1.heap.size W1 wr) (fun i9 _ => ns.length - (Go.RowKit.intOf i9).toNat)
  case atStart => exact ⟨0, rfl, by omega, by simp, by simp [rise], Below.refl _ _⟩
  case round =>
    obtain ⟨k, rfl, hk, hv, hri, hb⟩ := hrel
    have hEr := (unhide HE1).below hb
    have hNr := (unhide HN1).keep hb
    have c0 : wr.cell? ⟨w.heap.size, 0, none⟩ = some (.slice na ns.length nc) := cell_old hb (unhide RC0)
    have c1 : wr.cell? ⟨w.heap.size, 1, none⟩ = some (.slice xa xl xc) := cell_old hb (unhide RC1)
    by_cases hlt : k < ns.length
    · have hlt' : (k : Int) < (ns.length : Int) := by omega
      obtain ⟨p, q, rfl, hc⟩ := hNr.2.2 (by omega)
      obtain ⟨x, hx⟩ : ∃ x, ns[k]? = some x := ⟨_, List.getElem?_eq_getElem hlt⟩
      have hxd : ns.getD k [] = x := by rw [List.getD_eq_getElem?_getD, hx]; rfl
      have d0 := hc k x hx
      have HV := hide (valid_any x wr hEr (hNr.2.1 x (List.mem_of_getElem? hx)))
      have HC := hide hc
      have HVa := hide hv
      have HRi := hide hri
      have HBr := hide hb
      clear hc hv hri hb hEr hNr
      go_upto_region 4 with fail
      go_wp2_with fail
      refine (unhide HV).mono ?_
      rintro e w2 ⟨rfl, h2⟩
      have c0' : w2.cell? ⟨w.heap.size, 0, none⟩ = some (.slice (some ⟨p, q, none⟩) ns.length nc) := cell_old h2 c0
      have HB2 := hide ((unhide HBr).trans (h2.mono (unhide HBr).size))
      have H2 := hide h2
      clear c0 c1 d0 h2 HV
      by_cases hvx : validD x = true
      · rw [hvx]
        have hv2 : (ns.take (k + 1)).all validD = true := by rw [all_take_succ _ _ _ hlt, unhide HVa, hxd, hvx]; rfl
        have HV2 := hide hv2
        clear hv2
        by_cases hk0 : k = 0
        · subst hk0
          go_wp2_with fail
          go_roundw
          case rel => exact ⟨1, rfl, by omega, unhide HV2, rise_one ns, unhide HB2⟩
          case measure => simp [Go.RowKit.intOf]; omega
        · obtain ⟨m, rfl⟩ : ∃ m, k = m + 1 := ⟨k - 1, by omega⟩
          obtain ⟨y, hy⟩ : ∃ y, ns[m]? = some y := ⟨_, List.getElem?_eq_getElem (by omega)⟩
          have hyd : ns.getD m [] = y := by rw [List.getD_eq_getElem?_getD, hy]; rfl
          have d1 : w2.cell? ⟨p, q + m, none⟩ = some (S y) := cell_old (unhide H2) (unhide HC m y hy)
          have hpos : (0 : Int) < ((m + 1 : Nat) : Int) := by omega
          have hm1 : ((m + 1 : Nat) : Int) - 1 = (m : Int) := by omega
          have hml : (m : Int) < (ns.length : Int) := by omega
          by_cases hyx : y < x
          · have hbl : Op.bytesLess x y = false := by
              rw [less_eq]
              exact decide_eq_false (fun q => lt_irrefl' _ (lt_trans' q hyx))
            have hbe : (x == y) = false := by
              rw [beq_eq_false_iff_ne]
              intro q
              rw [q] at hyx
              exact lt_irrefl' _ hyx
            have HR := hide (rise_next m hlt (unhide HRi) (by rw [hyd, hxd]; exact hyx))
            clear hyx
            go_wp2_with fail
            go_roundw
            case rel => exact ⟨m + 1 + 1, by go_num, by omega, unhide HV2, unhide HR, unhide HB2⟩
            case measure => simp [Go.RowKit.intOf]; omega
          · have HR := hide (rise_bad m hlt (by rw [hyd, hxd]; exact hyx))
            have fin : nmsOK ns xl = false := by unfold nmsOK; rw [unhide HR]; simp
            by_cases hxy : x = y
            · subst hxy
              have hbl : Op.bytesLess x x = false := by
                rw [less_eq]
                exact decide_eq_false (lt_irrefl' _)
              have hbe : (x == x) = true := by simp
              go_wp2_with fail
              go_ret
              exact ⟨by rw [fin]; rfl, (unhide HB1).trans ((unhide HB2).mono (unhide HB1).size)⟩
            · have hbl : Op.bytesLess x y = true := by
                rw [less_eq]
                exact decide_eq_true (lt_total' hyx (fun q => hxy q.symm))
              go_wp2_with fail
              go_ret
              exact ⟨by rw [fin]; rfl, (unhide HB1).trans ((unhide HB2).mono (unhide HB1).size)⟩
      · have hvf : validD x = false := by simpa using hvx
        rw [hvf]
        go_wp2_with fail
        go_ret
        refine ⟨?_, (unhide HB1).trans ((unhide HB2).mono (unhide HB1).size)⟩
        rw [show nmsOK ns xl = false by unfold nmsOK; rw [all_bad _ _ _ hlt (by rw [hxd]; exact hvf)]; rfl]
        rfl
    · have hke : k = ns.length := by omega
      subst hke
      rw [List.take_length] at hv hri
      have HB2 := hide hb
      clear hb hEr hNr
      go_wp2_with fail
      go_ret
      refine ⟨?_, (unhide HB1).trans ((unhide HB2).mono (unhide HB1).size)⟩
      unfold nmsOK
      rw [hv, hri]
      show Ending.returned (.bool ((ns.length : Int) == (xl : Int))) = _
      congr 2
      rw [Bool.eq_iff_iff]
      simp
      omega
/-- is all zero but the kind? -/
def emp (n : Int) (t : Bs) (nl xl : Nat) : Bool := decide (n = 0) && t.isEmpty && decide (nl = 0) && decide (xl = 0)
set_option maxHeartbeats 4000000 in
set_option maxRecDepth 20000 in
theorem empty_any (k n : Int) (t : Bs) (na : Option Addr) (nl nc : Nat) (xa : Option Addr) (xl xc : Nat) (w : World) (h1 : nl ≤ 9223372036854775807) (h2 : xl ≤ 9223372036854775807) :
    Calls Tryd.prog 33 #[vJ k n t na nl nc xa xl xc] w fun e w' => e = .returned (.bool (emp n t nl xl)) ∧ Below w.heap.size w w' := by
  have fin : Below w.heap.size w (w.alloc (.cells #[I k, I n, S t, .slice na nl nc, .slice xa xl xc] 25)) := (Below.refl _ _).alloc (Nat.le_refl _) _
  unfold vJ emp
  by_cases hn : n = 0
  · by_cases ht : t = []
    · subst ht
      by_cases hl : nl = 0
      · by_cases hx : xl = 0
        · subst hn hl hx
          go_enter Tryd.func33, Tryd.ntmps33
          go_wp2
          go_ret
          exact ⟨rfl, fin⟩
        · subst hn hl
          have hx2 : ((xl : Int) == 0) = false := by rw [beq_eq_false_iff_ne]; omega
          go_enter Tryd.func33, Tryd.ntmps33
          go_wp2
          go_ret
          exact ⟨by simp [hx], fin⟩
      · subst hn
        have hl2 : ((nl : Int) == 0) = false := by rw [beq_eq_false_iff_ne]; omega
        go_enter Tryd.func33, Tryd.ntmps33
        go_wp2
        go_ret
        exact ⟨by simp [hl], fin⟩
    · subst hn
      have ht2 : t.isEmpty = false := by cases t with | nil => exact absurd rfl ht | cons a b => rfl
      go_enter Tryd.func33, Tryd.ntmps33
      go_wp2
      go_ret
      exact ⟨by simp [ht2], fin⟩
  · have hn2 : (n == 0) = false := by rw [beq_eq_false_iff_ne]; exact hn
    go_enter Tryd.func33, Tryd.ntmps33
    go_wp2
    go_ret
    exact ⟨by simp [hn], fin⟩
end Go.Proofs.YtfaahjbkdlkmjaaDoor
