import Derived.Test.YtllialbdofklgaaGreatDoorZzal
namespace Go.Proofs.YtllialbdofklgaaGreatDoor
open Go.RowKit
set_option maxHeartbeats 8000000
set_option maxRecDepth 8000
/-- What a Reader tells of a text, and where it stands then. -/
def tv (most : Nat) (s : Bs × Nat) : Bs := if fine s.2 (rTextE most s.1) then rTextS most s.1 else []
def ts (most : Nat) (s : Bs × Nat) : Bs × Nat := rGo s.1 s.2 (rTextE most s.1) (rTextK most s.1)
theorem ts_len (most : Nat) (s : Bs × Nat) : (ts most s).1.length ≤ s.1.length := rGo_len _ _ _ _
theorem Rd.num' {w0 w : World} {b g : Nat} {s : Bs × Nat} (h : Rd w0 b g s w) (size : Nat) (hs : s.1.length ≤ 4294967296) :
    Calls Tryz.prog 93 #[ptr b, I size] w fun e w' => e = .returned (I (rv size s)) ∧ Rd w0 b g (rs size s) w' ∧ Only (fun k => k = b) w w' := by
  obtain ⟨⟨off, cap, h1⟩, h2, h3, h4⟩ := h
  refine (rnum_any b g off cap s.1 s.2 size w h1 (by omega)).mono ?_
  rintro e w' ⟨rfl, h5, h6⟩
  rw [Int.toNat_natCast] at h5 ⊢
  exact ⟨rfl, ⟨h5, h6.below h2 h2.size (fun k hk => by rw [hk]; exact h3), h3, h4⟩, h6⟩
theorem Rd.text {w0 w : World} {b g : Nat} {s : Bs × Nat} (h : Rd w0 b g s w) (most : Nat) (hs : s.1.length ≤ 4294967296) :
    Calls Tryz.prog 94 #[ptr b, I most] w fun e w' => e = .returned (S (tv most s)) ∧ Rd w0 b g (ts most s) w' ∧ Only (fun k => k = b) w w' := by
  obtain ⟨⟨off, cap, h1⟩, h2, h3, h4⟩ := h
  refine (rtext_any b g off cap s.1 s.2 most w h1 (by omega)).mono ?_
  rintro e w' ⟨rfl, h5, h6⟩
  exact ⟨rfl, ⟨h5, h6.below h2 h2.size (fun k hk => by rw [hk]; exact h3), h3, h4⟩, h6⟩
/-- While a node is read: its box T, its rows, the Reader b, g. -/
structure Ge (w0 : World) (T b g : Nat) (lf : Bool) (K V : List Bs) (L : List Int) (vK vV vI : Value) (s : Bs × Nat) (w : World) : Prop where
  blk : w.heap[T]? = some (.cells #[.bool lf, vK, vV, vI] 25 (0, 0))
  rK : w.ownsRow 0 9 1 vK K.length (K.map S)
  rV : w.ownsRow 0 9 1 vV V.length (V.map S)
  rI : w.ownsRow 0 3 1 vI L.length (L.map fun z => I z)
  rd : Rd w0 b g s w
  hT : w0.heap.size ≤ T
  hK : ∀ i, vK.ownBlock = some i → w0.heap.size ≤ i ∧ i ≠ g
  hV : ∀ i, vV.ownBlock = some i → w0.heap.size ≤ i ∧ i ≠ g
  hI : ∀ i, vI.ownBlock = some i → w0.heap.size ≤ i ∧ i ≠ g
  gT : g ≠ T
  ne : ∀ i, vK.ownBlock = some i → vV.ownBlock ≠ some i
variable {w0 : World} {T b g : Nat} {lf : Bool} {K V : List Bs} {L : List Int} {vK vV vI : Value} {s s' : Bs × Nat} {w w' : World}
theorem Ge.bT (h : Ge w0 T b g lf K V L vK vV vI s w) : b ≠ T := by
  obtain ⟨⟨off, cap, q1⟩, q2, q3, q4⟩ := h.rd
  intro e
  have := q1.row
  rw [e, h.blk] at this
  cases this
theorem Ge.nr (h : Ge w0 T b g lf K V L vK vV vI s w) {e n m : Nat} {v : Value} {xs : List Value} (hr : w.ownsRow 0 e n v m xs) (h1 : e ≠ 25) (h2 : e ≠ 134) : ∀ i, v.ownBlock = some i → i ≠ T ∧ i ≠ b := by
  intro i hi
  obtain ⟨cs, q⟩ := owns_lt hr i hi
  obtain ⟨⟨off, cap, q1⟩, q2, q3, q4⟩ := h.rd
  constructor
  · rintro rfl
    have := h.blk
    rw [q] at this
    injection this with this
    injection this with _ e2
    exact h1 e2
  · rintro rfl
    have := q1.row
    rw [q] at this
    injection this with this
    injection this with _ e2
    exact h2 e2
theorem Ge.read (h : Ge w0 T b g lf K V L vK vV vI s w) (h2 : Rd w0 b g s' w') (o : Only (fun k => k = b) w w') : Ge w0 T b g lf K V L vK vV vI s' w' :=
  ⟨(o.block T (lt_of_row h.blk) (fun e => h.bT e.symm)).trans h.blk, owns_only h.rK o (fun i hi => (h.nr h.rK (by decide) (by decide) i hi).2), owns_only h.rV o (fun i hi => (h.nr h.rV (by decide) (by decide) i hi).2), owns_only h.rI o (fun i hi => (h.nr h.rI (by decide) (by decide) i hi).2), h2, h.hT, h.hK, h.hV, h.hI, h.gT, h.ne⟩
theorem Ge.below (h : Ge w0 T b g lf K V L vK vV vI s w) (q : Below w.heap.size w w') : Ge w0 T b g lf K V L vK vV vI s w' :=
  ⟨(q.block T (lt_of_row h.blk)).trans h.blk, owns_below h.rK q, owns_below h.rV q, owns_below h.rI q, h.rd.keep (P := fun _ => False) (Only.of_below q) (fun e => e) (fun e => e) (fun _ e => e.elim), h.hT, h.hK, h.hV, h.hI, h.gT, h.ne⟩
theorem Ge.cells (h : Ge w0 T b g lf K V L vK vV vI s w) : w.cell? ⟨T, 0, none⟩ = some (.bool lf) ∧ w.cell? ⟨T, 1, none⟩ = some vK ∧ w.cell? ⟨T, 2, none⟩ = some vV ∧ w.cell? ⟨T, 3, none⟩ = some vI :=
  box4 h.blk (Below.refl _ _) (lt_of_row h.blk)
theorem Ge.pushK {v' : Value} {w1 : World} (h : Ge w0 T b g lf K V L vK vV vI s w) (z : Bs) (hr : w1.ownsRow 0 9 1 v' (K.length + 1) (K.map S ++ [S z])) (o : Only (fun i => vK.ownBlock = some i) w w1) (hn : ∀ i, v'.ownBlock = some i → vK.ownBlock = some i ∨ w.heap.size ≤ i) : Ge w0 T b g lf (K ++ [z]) V L v' vV vI s (w1.setCell ⟨T, 1, none⟩ v') := by
  have hrd := h.rd
  obtain ⟨⟨off, cap, q1⟩, q2, q3, q4⟩ := h.rd
  have hgl : g < w.heap.size := q1.bys.lt
  have nK := h.nr h.rK (by decide) (by decide)
  have nV := h.nr h.rV (by decide) (by decide)
  have nI := h.nr h.rI (by decide) (by decide)
  have hT1 := (o.block T (lt_of_row h.blk) (fun e => (nK T e).1 rfl)).trans h.blk
  have rd1 : Rd w0 b g s w1 := hrd.keep o (fun e => (nK b e).2 rfl) (fun e => (h.hK g e).2 rfl) (fun i e => (h.hK i e).1)
  have o2 := Only.setCell w1 ⟨T, 1, none⟩ v'
  have nV1 : w1.ownsRow 0 9 1 vV V.length (V.map S) := owns_only h.rV o (fun i hi e => h.ne i e hi)
  have nI1 : w1.ownsRow 0 3 1 vI L.length (L.map fun z => I z) := owns_only h.rI o (fun i hi e => by
    obtain ⟨c1, e1⟩ := owns_lt h.rK i e
    obtain ⟨c2, e2⟩ := owns_lt h.rI i hi
    rw [e1] at e2
    cases e2)
  refine ⟨?_, ?_, owns_only nV1 o2 (fun i hi e => (nV i hi).1 e), owns_only nI1 o2 (fun i hi e => (nI i hi).1 e), rd1.keep o2 (fun e => h.bT e) (fun e => h.gT e) (fun i e => by rw [e]; exact h.hT), h.hT, fun i hi => ?_, h.hV, h.hI, h.gT, fun i hi e => ?_⟩
  · rw [heap_setCell_same w1 T 1 _ 25 v' hT1]; rfl
  · rw [List.length_append, List.map_append]
    refine owns_only hr o2 (fun i hi e => ?_)
    obtain ⟨cs, q⟩ := owns_lt hr i hi
    rw [show i = T from e, hT1] at q
    cases q
  · rcases hn i hi with e | e
    · exact h.hK i e
    · have := q2.size; constructor <;> omega
  · rcases hn i hi with e2 | e2
    · exact h.ne i e2 e
    · have := owns_blk h.rV i e; omega
theorem Ge.pushV {v' : Value} {w1 : World} (h : Ge w0 T b g lf K V L vK vV vI s w) (z : Bs) (hr : w1.ownsRow 0 9 1 v' (V.length + 1) (V.map S ++ [S z])) (o : Only (fun i => vV.ownBlock = some i) w w1) (hn : ∀ i, v'.ownBlock = some i → vV.ownBlock = some i ∨ w.heap.size ≤ i) : Ge w0 T b g lf K (V ++ [z]) L vK v' vI s (w1.setCell ⟨T, 2, none⟩ v') := by
  have hrd := h.rd
  obtain ⟨⟨off, cap, q1⟩, q2, q3, q4⟩ := h.rd
  have hgl : g < w.heap.size := q1.bys.lt
  have nK := h.nr h.rK (by decide) (by decide)
  have nV := h.nr h.rV (by decide) (by decide)
  have nI := h.nr h.rI (by decide) (by decide)
  have hT1 := (o.block T (lt_of_row h.blk) (fun e => (nV T e).1 rfl)).trans h.blk
  have rd1 : Rd w0 b g s w1 := hrd.keep o (fun e => (nV b e).2 rfl) (fun e => (h.hV g e).2 rfl) (fun i e => (h.hV i e).1)
  have o2 := Only.setCell w1 ⟨T, 2, none⟩ v'
  have nK1 : w1.ownsRow 0 9 1 vK K.length (K.map S) := owns_only h.rK o (fun i hi e => h.ne i hi e)
  have nI1 : w1.ownsRow 0 3 1 vI L.length (L.map fun z => I z) := owns_only h.rI o (fun i hi e => by
    obtain ⟨c1, e1⟩ := owns_lt h.rV i e
    obtain ⟨c2, e2⟩ := owns_lt h.rI i hi
    rw [e1] at e2
    cases e2)
  refine ⟨?_, owns_only nK1 o2 (fun i hi e => (nK i hi).1 e), ?_, owns_only nI1 o2 (fun i hi e => (nI i hi).1 e), rd1.keep o2 (fun e => h.bT e) (fun e => h.gT e) (fun i e => by rw [e]; exact h.hT), h.hT, h.hK, fun i hi => ?_, h.hI, h.gT, fun i hi e => ?_⟩
  · rw [heap_setCell_same w1 T 2 _ 25 v' hT1]; rfl
  · rw [List.length_append, List.map_append]
    refine owns_only hr o2 (fun i hi e => ?_)
    obtain ⟨cs, q⟩ := owns_lt hr i hi
    rw [show i = T from e, hT1] at q
    cases q
  · rcases hn i hi with e | e
    · exact h.hV i e
    · have := q2.size; constructor <;> omega
  · rcases hn i e with e2 | e2
    · exact h.ne i hi e2
    · have := owns_blk h.rK i hi; omega
/-- One more text behind a row of one's own, within a region that draws its order. -/
theorem step_pushS {ops : Array Oper} {o : Oper} {a : Act} {K : Act → World → Prop} {Q : Exit → Act → World → Prop} {R : Prop} (hgd : o.guard = none) (s x : Operand)
    (ho : o.op = .call { callee := .builtin .append, args := #[s, x], argTypes := #[22, 22] })
    (v : Value) (n : Nat) (xs : List Value) (hs : a.eval s = v) (w0 : World) (z : Bs) (hown : w0.ownsRow 0 9 1 v n xs)
    (hx : a.eval x = .slice (some ⟨w0.heap.size, 0, none⟩) 1 1) (hlen : n + 1 ≤ 1000000000000)
    (h : ∀ p cap w', w'.ownsRow 0 9 1 (.slice p (n + 1) cap) (n + 1) (xs ++ [S z]) → Only (fun k => v.ownBlock = some k) w0 w' → (∀ k, (Value.slice p (n + 1) cap).ownBlock = some k → v.ownBlock = some k ∨ w0.heap.size ≤ k) → K (a.put o.dst (.slice p (n + 1) cap)) w') :
    if Region.wanted o (yielded ops a.tmps) = true then Oper.wp Tryz.prog o a (w0.alloc (.cells #[S z] 9)) K Q else R := by
  have hw : Region.wanted o (yielded ops a.tmps) = true := by simp [Region.wanted, hgd]
  rw [if_pos hw]
  obtain ⟨p, cap, w', hr, h2, h3, h4⟩ := app_own 22 9 o.type _ 1 16 Tryz.underlying22 info9 rfl (by decide) v n xs w0 hown [S z] rfl (by intro u hu; simp at hu; subst hu; rfl) (by omega) (by omega)
  unfold Oper.wp execOp
  simp only [ho, resolve, invoke, builtin, Sem.run_bind, Sem.run_pure, Result.andThen_ok, List.map_toArray, List.map_cons, List.map_nil, hs, hx]
  rw [show (w0.alloc (.cells #[S z] 9)) = w0.alloc (.cells [S z].toArray 9) from rfl, hr]
  exact h p cap w' h2 h3 h4
end Go.Proofs.YtllialbdofklgaaGreatDoor
