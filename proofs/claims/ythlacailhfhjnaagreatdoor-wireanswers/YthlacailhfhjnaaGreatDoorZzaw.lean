import Derived.Test.YthlacailhfhjnaaGreatDoorZzav
namespace Go.Proofs.YthlacailhfhjnaaGreatDoor
open Go.RowKit Go.Lib
/-- What a parser that reads lines keeps to. -/
def OkL (p : Ps) : Prop := p.st ≤ 1 ∧ p.bd = [] ∧ p.len ≤ 4000 ∧ p.hs.length ≤ 32 ∧ p.ln.length ≤ 1001
def OLn (P : Nat) (hv : Value) (L : Nat) (v : Value) : Nat → Prop := fun k => OP P hv k ∨ k = L ∨ v.ownBlock = some k
/-- What a byte of a line leaves. -/
structure Lin (op P : Nat) (r : Ps × Nat) (nx hv : Value) (L Q Z : Nat) (v : Value) (w w' : World) : Prop where
  at_ : ∃ p' nx' hv', PAt op P p' nx' hv' w' ∧ (r.2 = 0 → p' = r.1) ∧ (∀ k, hv'.ownBlock = some k → hv.ownBlock = some k ∨ w.heap.size ≤ k) ∧
    (r.2 = 0 → r.1.st ≤ 1 → nx' = nx ∧ ∃ v', LAt P r.1 L Q Z v' w' ∧ ∀ k, v'.ownBlock = some k → v.ownBlock = some k ∨ w.heap.size ≤ k) ∧
    (r.2 = 0 → r.1.st = 2 → ∃ L' Q' Z' v', nx' = nxt 2 L' Q' Z' ∧ LAt P r.1 L' Q' Z' v' w' ∧ w.heap.size ≤ L' ∧ w.heap.size ≤ Q' ∧ w.heap.size ≤ Z' ∧ ∀ k, v'.ownBlock = some k → w.heap.size ≤ k)
  only : Only (OLn P hv L v) w w'
theorem own_len (p : Option Addr) (n m c d : Nat) : (Value.slice p n c).ownBlock = (Value.slice p m d).ownBlock := by cases p <;> rfl
theorem jLen_ln (p : Ps) (v : Bs) : (jLen p v).2 = 0 → (jLen p v).1.ln = p.ln ∧ (jLen p v).1.st = p.st := fun h => ⟨(jLen_rd p v h).2.2.1, (jLen_rd p v h).2.1⟩
theorem judge_st (op : Bs → Option Fst) (p : Ps) (e : Bs) (hp : p.st ≤ 1) : ((judge op p e).2 = 0 → (judge op p e).1.st ≤ 3) ∧ ((judge op p e).2 = 0 → (judge op p e).1.ln = p.ln) := by
  constructor
  · intro h
    have := (judge_rd op p e h).2
    omega
  · intro h
    unfold judge at h ⊢
    split
    · rename_i h1
      rw [if_pos h1] at h
      unfold jFst at h ⊢
      split
      · rename_i h2; rw [h2] at h; simp at h
      · rename_i h2
        rw [h2] at h
        split
        · rfl
        · rename_i h3; simp [h3] at h
    · rename_i h1
      rw [if_neg h1] at h
      split
      · unfold jEnd
        split <;> rfl
      · rename_i h2
        rw [if_neg h2] at h
        exact (jHdr_rd p _ _ h).2.2
set_option maxHeartbeats 8000000 in
set_option maxRecDepth 8000 in
theorem linef47_any {B P L Q Z : Nat} {p : Ps} {nx hv v : Value} {w : World} (h : PAt 47 P p nx hv w) (hl : LAt P p L Q Z v w) (hE : Env B w) (hB : B ≤ L) (hok : OkL p) :
    Calls Tryz.prog 99 #[.int .u8 10, ptr L, ptr Q] w fun e w' => e = .returned (.int .i64 (judge opM { p with ln := [] } p.ln).2) ∧ Lin 47 P (judge opM { p with ln := [] } p.ln) nx hv L Q Z v w w' := by
  obtain ⟨hst, hb, hlen, hh, hln⟩ := hok
  obtain ⟨pa, ca, hv0⟩ := owns_form hl.row
  have hcur : cur p = p.ln := by unfold cur; rw [if_pos hst]
  have HT : Hid ((convert 102 9 v).run Tryz.prog w = .ok (S p.ln) w) := hide (by rw [← hcur]; exact Own.text (base := 0) (W0 := w) ⟨World.ownsRowF_of hl.row, Below.refl _ _, Nat.zero_le _⟩)
  have cL : w.cell? ⟨L, 0, none⟩ = some v := cell_of_row w L 0 _ 102 (0, 0) hl.lb
  have cQ : w.cell? ⟨Q, 0, none⟩ = some (ptr P) := cell_of_row w Q 0 _ 80 (0, 0) hl.qb
  have zL : w.frozen? ⟨L, 0, none⟩ = false := frozen_of_row w L 0 _ 102 hl.lb
  have hLQ : L ≠ Q := fun e => by have := hl.lb; rw [e, hl.qb] at this; simp at this
  have hQL : ¬ Q = L := fun e => hLQ e.symm
  have hPL : P ≠ L := fun e => by have := h.blk; rw [e, hl.lb] at this; simp at this
  have hvL := hide (fun (k : Nat) (hk : v.ownBlock = some k) (e : k = L) => (by
    obtain ⟨cs, q⟩ := owns_lt hl.row k hk
    rw [e, hl.lb] at q
    simp at q : False))
  have hhL := hide (fun (k : Nat) (hk : hv.ownBlock = some k) (e : k = L) => (by
    obtain ⟨cs, q⟩ := owns_lt h.hrow k hk
    rw [e, hl.lb] at q
    simp at q : False))
  have hLs := lt_of_row hl.lb
  have hQs := lt_of_row hl.qb
  rw [hcur] at hv0
  subst hv0
  have W1P := hide (show PAt 47 P { p with ln := [] } nx hv (w.setCell ⟨L, 0, none⟩ (.slice pa 0 ca)) from
    (show PAt 47 P { p with ln := [] } nx hv w from ⟨h.blk, h.hrow⟩).keep (Only.setCell w ⟨L, 0, none⟩ _) hPL (fun k hk e => unhide hhL k hk e))
  have W1L := hide (show LAt P { p with ln := [] } L Q Z (.slice pa 0 ca) (w.setCell ⟨L, 0, none⟩ (.slice pa 0 ca)) from by
    refine ⟨?_, ?_, ?_, ?_⟩
    · rw [heap_setCell_same w L 0 _ 102 _ hl.lb]; rfl
    · rw [heap_setCell_other w ⟨L, 0, none⟩ Q _ hQL]; exact hl.qb
    · intro q; simp at q; omega
    · have e : cur { p with ln := [] } = [] := by unfold cur; rw [if_pos hst]
      rw [e]
      refine owns_same (w := w) ⟨rfl, ?_⟩ (fun k hk => heap_setCell_other w ⟨L, 0, none⟩ k _ (fun q => unhide hvL k ((own_len _ _ _ _ _).trans hk) q))
      rcases hl.row.2 with ⟨e1, e2⟩ | ⟨g, cap, cu, e1, e2, e3, e4, e5, e6, e7⟩
      · injection e1 with a1 a2 a3
        left; rw [a1, a3]; exact ⟨rfl, rfl⟩
      · injection e1 with a1 a2 a3
        right; rw [a1]; exact ⟨g, ca, cu, rfl, e2, e3, Nat.zero_le _, by rw [a3]; exact e5, by rw [a3]; exact e6, by simp⟩)
  have W1O := hide ((Only.refl (OLn P hv L (.slice pa p.ln.length ca)) w).put ⟨L, 0, none⟩ (.slice pa 0 ca) (.inl (.inr (.inl rfl))))
  have W1E := hide (hE.below (((Only.setCell w ⟨L, 0, none⟩ (.slice pa 0 ca)).below (Below.refl _ _) hE.le (fun k e => by subst e; exact hB))))
  have HS := hide ((judge_st opM { p with ln := [] } p.ln hst).1)
  have HLN := hide ((judge_st opM { p with ln := [] } p.ln hst).2)
  have HJD := hide (fun (W : World) (h1 : PAt 47 P { p with ln := [] } nx hv W) (h2 : Env B W) => judge47_any h1 h2 p.ln (by omega) hst hb hlen hh)
  have hpa : (0 : Int) ≤ ca := by omega
  generalize judge opM { p with ln := [] } p.ln = J at *
  clear h hl hE hb hlen hh
  go_enter Tryz.func99, Tryz.ntmps99
  go_wp2_with (first | (refine wpList_conv rfl 102 9 (.tmp 8) rfl _ _ (by rfl) (unhide HT) ?_))
  refine (unhide HJD _ (unhide W1P) (unhide W1E)).mono ?_
  rintro e w2 ⟨rfl, hj⟩
  have HJ2 := hide hj
  clear hj
  go_wp2
  go_ret
  refine ⟨rfl, ?_⟩
  obtain ⟨⟨nx', hv', a1, a2, a3, a4⟩, a5⟩ := unhide HJ2
  have hsz : (w.setCell ⟨L, 0, none⟩ (.slice pa 0 ca)).heap.size = w.heap.size := by simp [World.setCell]
  refine ⟨⟨jr J { p with ln := [] }, nx', hv', a1, fun q => by unfold jr; rw [if_pos q], fun k hk => by rw [← hsz]; exact a2 k hk, ?_, ?_⟩, (unhide W1O).trans a5 (fun k _ q => .inl q)⟩
  · intro q1 q2
    have e : jr J { p with ln := [] } = J.1 := by unfold jr; rw [if_pos q1]
    rw [e] at a3
    refine ⟨a3 (by omega), .slice pa 0 ca, ?_, fun k hk => .inl ((own_len _ _ _ _ _).trans hk)⟩
    have hL1 := unhide W1L
    have hc : cur J.1 = [] := by unfold cur; rw [if_pos q2, unhide HLN q1]
    have hP1 := unhide W1P
    have ty : ∀ k cs T, T ≠ 91 → T ≠ 35 → (w.setCell ⟨L, 0, none⟩ (.slice pa 0 ca)).heap[k]? = some (.cells cs T (0, 0)) → ¬ OP P hv k := by
      intro k cs T t1 t2 hk q
      rcases q with q | q
      · rw [q, hP1.blk] at hk; simp at hk; exact t1 hk.2.symm
      · obtain ⟨cs2, q2⟩ := owns_lt hP1.hrow k q
        rw [q2] at hk; simp at hk; exact t2 hk.2.symm
    refine ⟨(a5.block L (lt_of_row hL1.lb) (ty L _ 102 (by decide) (by decide) hL1.lb)).trans hL1.lb, (a5.block Q (lt_of_row hL1.qb) (ty Q _ 80 (by decide) (by decide) hL1.qb)).trans hL1.qb, fun q => by omega, ?_⟩
    rw [hc]
    have hr := hL1.row
    have e2 : cur { p with ln := [] } = [] := by unfold cur; rw [if_pos hst]
    rw [e2] at hr
    refine owns_same hr (fun k hk => ?_)
    obtain ⟨cs, q⟩ := owns_lt hr k hk
    exact a5.block k (lt_of_row q) (ty k cs 5 (by decide) (by decide) q)
  · intro q1 q2
    have e : jr J { p with ln := [] } = J.1 := by unfold jr; rw [if_pos q1]
    rw [e] at a4
    rw [hsz] at a4
    exact a4 q2
set_option maxHeartbeats 8000000 in
set_option maxRecDepth 8000 in
theorem linef69_any {B P L Q Z : Nat} {p : Ps} {nx hv v : Value} {w : World} (h : PAt 69 P p nx hv w) (hl : LAt P p L Q Z v w) (hE : Env B w) (hB : B ≤ L) (hok : OkL p) :
    Calls Tryz.prog 99 #[.int .u8 10, ptr L, ptr Q] w fun e w' => e = .returned (.int .i64 (judge opA { p with ln := [] } p.ln).2) ∧ Lin 69 P (judge opA { p with ln := [] } p.ln) nx hv L Q Z v w w' := by
  obtain ⟨hst, hb, hlen, hh, hln⟩ := hok
  obtain ⟨pa, ca, hv0⟩ := owns_form hl.row
  have hcur : cur p = p.ln := by unfold cur; rw [if_pos hst]
  have HT : Hid ((convert 102 9 v).run Tryz.prog w = .ok (S p.ln) w) := hide (by rw [← hcur]; exact Own.text (base := 0) (W0 := w) ⟨World.ownsRowF_of hl.row, Below.refl _ _, Nat.zero_le _⟩)
  have cL : w.cell? ⟨L, 0, none⟩ = some v := cell_of_row w L 0 _ 102 (0, 0) hl.lb
  have cQ : w.cell? ⟨Q, 0, none⟩ = some (ptr P) := cell_of_row w Q 0 _ 80 (0, 0) hl.qb
  have zL : w.frozen? ⟨L, 0, none⟩ = false := frozen_of_row w L 0 _ 102 hl.lb
  have hLQ : L ≠ Q := fun e => by have := hl.lb; rw [e, hl.qb] at this; simp at this
  have hQL : ¬ Q = L := fun e => hLQ e.symm
  have hPL : P ≠ L := fun e => by have := h.blk; rw [e, hl.lb] at this; simp at this
  have hvL := hide (fun (k : Nat) (hk : v.ownBlock = some k) (e : k = L) => (by
    obtain ⟨cs, q⟩ := owns_lt hl.row k hk
    rw [e, hl.lb] at q
    simp at q : False))
  have hhL := hide (fun (k : Nat) (hk : hv.ownBlock = some k) (e : k = L) => (by
    obtain ⟨cs, q⟩ := owns_lt h.hrow k hk
    rw [e, hl.lb] at q
    simp at q : False))
  have hLs := lt_of_row hl.lb
  have hQs := lt_of_row hl.qb
  rw [hcur] at hv0
  subst hv0
  have W1P := hide (show PAt 69 P { p with ln := [] } nx hv (w.setCell ⟨L, 0, none⟩ (.slice pa 0 ca)) from
    (show PAt 69 P { p with ln := [] } nx hv w from ⟨h.blk, h.hrow⟩).keep (Only.setCell w ⟨L, 0, none⟩ _) hPL (fun k hk e => unhide hhL k hk e))
  have W1L := hide (show LAt P { p with ln := [] } L Q Z (.slice pa 0 ca) (w.setCell ⟨L, 0, none⟩ (.slice pa 0 ca)) from by
    refine ⟨?_, ?_, ?_, ?_⟩
    · rw [heap_setCell_same w L 0 _ 102 _ hl.lb]; rfl
    · rw [heap_setCell_other w ⟨L, 0, none⟩ Q _ hQL]; exact hl.qb
    · intro q; simp at q; omega
    · have e : cur { p with ln := [] } = [] := by unfold cur; rw [if_pos hst]
      rw [e]
      refine owns_same (w := w) ⟨rfl, ?_⟩ (fun k hk => heap_setCell_other w ⟨L, 0, none⟩ k _ (fun q => unhide hvL k ((own_len _ _ _ _ _).trans hk) q))
      rcases hl.row.2 with ⟨e1, e2⟩ | ⟨g, cap, cu, e1, e2, e3, e4, e5, e6, e7⟩
      · injection e1 with a1 a2 a3
        left; rw [a1, a3]; exact ⟨rfl, rfl⟩
      · injection e1 with a1 a2 a3
        right; rw [a1]; exact ⟨g, ca, cu, rfl, e2, e3, Nat.zero_le _, by rw [a3]; exact e5, by rw [a3]; exact e6, by simp⟩)
  have W1O := hide ((Only.refl (OLn P hv L (.slice pa p.ln.length ca)) w).put ⟨L, 0, none⟩ (.slice pa 0 ca) (.inl (.inr (.inl rfl))))
  have W1E := hide (hE.below (((Only.setCell w ⟨L, 0, none⟩ (.slice pa 0 ca)).below (Below.refl _ _) hE.le (fun k e => by subst e; exact hB))))
  have HS := hide ((judge_st opA { p with ln := [] } p.ln hst).1)
  have HLN := hide ((judge_st opA { p with ln := [] } p.ln hst).2)
  have HJD := hide (fun (W : World) (h1 : PAt 69 P { p with ln := [] } nx hv W) (h2 : Env B W) => judge69_any h1 h2 p.ln (by omega) hst hb hlen hh)
  have hpa : (0 : Int) ≤ ca := by omega
  generalize judge opA { p with ln := [] } p.ln = J at *
  clear h hl hE hb hlen hh
  go_enter Tryz.func99, Tryz.ntmps99
  go_wp2_with (first | (refine wpList_conv rfl 102 9 (.tmp 8) rfl _ _ (by rfl) (unhide HT) ?_))
  refine (unhide HJD _ (unhide W1P) (unhide W1E)).mono ?_
  rintro e w2 ⟨rfl, hj⟩
  have HJ2 := hide hj
  clear hj
  go_wp2
  go_ret
  refine ⟨rfl, ?_⟩
  obtain ⟨⟨nx', hv', a1, a2, a3, a4⟩, a5⟩ := unhide HJ2
  have hsz : (w.setCell ⟨L, 0, none⟩ (.slice pa 0 ca)).heap.size = w.heap.size := by simp [World.setCell]
  refine ⟨⟨jr J { p with ln := [] }, nx', hv', a1, fun q => by unfold jr; rw [if_pos q], fun k hk => by rw [← hsz]; exact a2 k hk, ?_, ?_⟩, (unhide W1O).trans a5 (fun k _ q => .inl q)⟩
  · intro q1 q2
    have e : jr J { p with ln := [] } = J.1 := by unfold jr; rw [if_pos q1]
    rw [e] at a3
    refine ⟨a3 (by omega), .slice pa 0 ca, ?_, fun k hk => .inl ((own_len _ _ _ _ _).trans hk)⟩
    have hL1 := unhide W1L
    have hc : cur J.1 = [] := by unfold cur; rw [if_pos q2, unhide HLN q1]
    have hP1 := unhide W1P
    have ty : ∀ k cs T, T ≠ 91 → T ≠ 35 → (w.setCell ⟨L, 0, none⟩ (.slice pa 0 ca)).heap[k]? = some (.cells cs T (0, 0)) → ¬ OP P hv k := by
      intro k cs T t1 t2 hk q
      rcases q with q | q
      · rw [q, hP1.blk] at hk; simp at hk; exact t1 hk.2.symm
      · obtain ⟨cs2, q2⟩ := owns_lt hP1.hrow k q
        rw [q2] at hk; simp at hk; exact t2 hk.2.symm
    refine ⟨(a5.block L (lt_of_row hL1.lb) (ty L _ 102 (by decide) (by decide) hL1.lb)).trans hL1.lb, (a5.block Q (lt_of_row hL1.qb) (ty Q _ 80 (by decide) (by decide) hL1.qb)).trans hL1.qb, fun q => by omega, ?_⟩
    rw [hc]
    have hr := hL1.row
    have e2 : cur { p with ln := [] } = [] := by unfold cur; rw [if_pos hst]
    rw [e2] at hr
    refine owns_same hr (fun k hk => ?_)
    obtain ⟨cs, q⟩ := owns_lt hr k hk
    exact a5.block k (lt_of_row q) (ty k cs 5 (by decide) (by decide) q)
  · intro q1 q2
    have e : jr J { p with ln := [] } = J.1 := by unfold jr; rw [if_pos q1]
    rw [e] at a4
    rw [hsz] at a4
    exact a4 q2
end Go.Proofs.YthlacailhfhjnaaGreatDoor
namespace Go.Proofs.YthlacailhfhjnaaGreatDoor
open Go.RowKit Go.Lib
def lrow (p : Ps) (b : UInt8) : Ps × Nat := if 1001 < p.ln.length + 1 then (pov, 53) else ({ p with ln := p.ln ++ [b] }, 0)
set_option maxHeartbeats 8000000 in
set_option maxRecDepth 8000 in
theorem linea_any {op P L Q Z : Nat} {p : Ps} {nx hv v : Value} {w : World} (h : PAt op P p nx hv w) (hl : LAt P p L Q Z v w) (hok : OkL p) (b : UInt8) (hb10 : b ≠ 10) :
    Calls Tryz.prog 99 #[.int .u8 (b.toNat : Int), ptr L, ptr Q] w fun e w' => e = .returned (.int .i64 (lrow p b).2) ∧ Lin op P (lrow p b) nx hv L Q Z v w w' := by
  obtain ⟨hst, hb, hlen, hh, hln⟩ := hok
  obtain ⟨pa, ca, hv0⟩ := owns_form hl.row
  have hcur : cur p = p.ln := by unfold cur; rw [if_pos hst]
  have cL : w.cell? ⟨L, 0, none⟩ = some v := cell_of_row w L 0 _ 102 (0, 0) hl.lb
  have i10 : ¬ (b.toNat : Int) = 10 := toNat_ne hb10
  rw [hcur] at hv0
  subst hv0
  have hLs := lt_of_row hl.lb
  have HR := hide (by have := hl.row; rw [hcur] at this; exact this)
  have HNL : ¬ (Value.slice pa p.ln.length ca).ownBlock = some L := fun e => by
    obtain ⟨cs, q⟩ := owns_lt hl.row L e
    rw [hl.lb] at q
    simp at q
  have HLB := hide hl.lb
  have H := hide h
  have HL := hide hl
  have HRL : Hid (lrow p b = if 1001 < p.ln.length + 1 then (pov, 53) else ({ p with ln := p.ln ++ [b] }, 0)) := hide rfl
  generalize lrow p b = J at *
  clear h hl hb hlen hh
  have fin : ∀ (pb : Option Addr) (cb : Nat) (W5 : World), W5.ownsRow 0 5 1 (.slice pb (p.ln.length + 1) cb) (p.ln.length + 1) (p.ln.map B ++ [.int .u8 (b.toNat : Int)]) → Only (fun k => (Value.slice pa p.ln.length ca).ownBlock = some k) w W5 → (∀ k, (Value.slice pb (p.ln.length + 1) cb).ownBlock = some k → (Value.slice pa p.ln.length ca).ownBlock = some k ∨ w.heap.size ≤ k) → Lin op P J nx hv L Q Z (.slice pa p.ln.length ca) w (W5.setCell ⟨L, 0, none⟩ (.slice pb (p.ln.length + 1) cb)) := by
    intro pb cb W5 ho5 hw5 hn5
    have hP := unhide H
    have hL := unhide HL
    have ty : ∀ k cs T, T ≠ 5 → w.heap[k]? = some (.cells cs T (0, 0)) → ¬ (Value.slice pa p.ln.length ca).ownBlock = some k := by
      intro k cs T t1 hk q
      obtain ⟨cs2, q2⟩ := owns_lt hL.row k q
      rw [q2] at hk; simp at hk; exact t1 hk.2.symm
    have hP5 : PAt op P p nx hv W5 := hP.keep hw5 (ty P _ 91 (by decide) hP.blk) (fun k hk => by
      obtain ⟨cs, q⟩ := owns_lt hP.hrow k hk
      exact ty k cs 35 (by decide) q)
    have lb5 : W5.heap[L]? = _ := (hw5.block L (lt_of_row hL.lb) (ty L _ 102 (by decide) hL.lb)).trans hL.lb
    have qb5 : W5.heap[Q]? = _ := (hw5.block Q (lt_of_row hL.qb) (ty Q _ 80 (by decide) hL.qb)).trans hL.qb
    have hQL : ¬ Q = L := fun e => by rw [e, lb5] at qb5; simp at qb5
    have hPL : P ≠ L := fun e => by have := hP5.blk; rw [e, lb5] at this; simp at this
    have hP6 : PAt op P p nx hv (W5.setCell ⟨L, 0, none⟩ (.slice pb (p.ln.length + 1) cb)) := hP5.keep (Only.setCell W5 ⟨L, 0, none⟩ _) hPL (fun k hk e => by
      obtain ⟨cs, q⟩ := owns_lt hP5.hrow k hk
      rw [e, lb5] at q
      simp at q)
    refine ⟨⟨{ p with ln := p.ln ++ [b] }, nx, hv, ⟨hP6.blk, hP6.hrow⟩, ?_, fun _ q => .inl q, ?_, ?_⟩, ?_⟩
    · intro q
      rw [unhide HRL] at q ⊢
      split
      · rename_i q2; rw [if_pos q2] at q; simp at q
      · rfl
    · intro q1 _
      have e : J.1 = { p with ln := p.ln ++ [b] } := by
        rw [unhide HRL] at q1 ⊢
        split
        · rename_i q2; rw [if_pos q2] at q1; simp at q1
        · rfl
      refine ⟨rfl, .slice pb (p.ln.length + 1) cb, ?_, hn5⟩
      rw [e]
      refine ⟨?_, ?_, fun q => by simp at q; omega, ?_⟩
      · rw [heap_setCell_same W5 L 0 _ 102 _ lb5]; rfl
      · rw [heap_setCell_other W5 ⟨L, 0, none⟩ Q _ hQL]; exact qb5
      · have e3 : cur { p with ln := p.ln ++ [b] } = p.ln ++ [b] := by unfold cur; rw [if_pos hst]
        rw [e3, List.length_append, List.map_append]
        exact owns_same ho5 (fun k hk => heap_setCell_other W5 ⟨L, 0, none⟩ k _ (fun q => by
          obtain ⟨cs, q2⟩ := owns_lt ho5 k hk
          simp only at q
          rw [q, lb5] at q2
          simp at q2))
    · intro q1 q2
      rw [unhide HRL] at q1 q2
      split at q2
      · rename_i q3; rw [if_pos q3] at q1; simp at q1
      · simp at q2; omega
    · exact ((hw5.mono (fun k _ q => .inr (.inr q))).put ⟨L, 0, none⟩ _ (.inl (.inr (.inl rfl))))
  have FIN := hide fin
  clear fin
  by_cases hc : 1001 < p.ln.length + 1
  · have hJ : J.2 = 53 := by rw [unhide HRL, if_pos hc]
    rw [hJ]
    have ic : (1001 : Int) < (p.ln.length : Int) + 1 := by omega
    clear hJ hc HRL
    go_enter Tryz.func99, Tryz.ntmps99
    go_wp2_with (first | (at_builtin; refine push_own 102 5 _ 1 1 Tryz.underlying102 info5 rfl (by decide) rfl (.tmp 15) (.tmp 17) rfl (.slice pa p.ln.length ca) p.ln.length (p.ln.map B) (by rfl) w (unhide HR) [.int .u8 (b.toNat : Int)] (by rfl) (by intro u hu; simp at hu; rcases hu with rfl; rfl) (by rfl) (by omega) (by omega) ?_; intro pb cb W5 ho5 hw5 hn5; have hb5 := (hw5.block L hLs HNL).trans (unhide HLB); have c5 := (cell_of_row W5 L 0 _ 102 (0, 0) hb5); have z5 := (frozen_of_row W5 L 0 _ 102 hb5); have e5 : W5.cell? ⟨L, 0, none⟩ = some (.slice pa p.ln.length ca) := c5; have l5 := lt_of_row hb5; clear c5))
    go_ret
    exact ⟨rfl, unhide FIN pb cb W5 ho5 hw5 hn5⟩
  · have hJ : J.2 = 0 := by rw [unhide HRL, if_neg hc]
    rw [hJ]
    have ic : ¬ (1001 : Int) < (p.ln.length : Int) + 1 := by omega
    clear hJ hc HRL
    go_enter Tryz.func99, Tryz.ntmps99
    go_wp2_with (first | (at_builtin; refine push_own 102 5 _ 1 1 Tryz.underlying102 info5 rfl (by decide) rfl (.tmp 15) (.tmp 17) rfl (.slice pa p.ln.length ca) p.ln.length (p.ln.map B) (by rfl) w (unhide HR) [.int .u8 (b.toNat : Int)] (by rfl) (by intro u hu; simp at hu; rcases hu with rfl; rfl) (by rfl) (by omega) (by omega) ?_; intro pb cb W5 ho5 hw5 hn5; have hb5 := (hw5.block L hLs HNL).trans (unhide HLB); have c5 := (cell_of_row W5 L 0 _ 102 (0, 0) hb5); have z5 := (frozen_of_row W5 L 0 _ 102 hb5); have e5 : W5.cell? ⟨L, 0, none⟩ = some (.slice pa p.ln.length ca) := c5; have l5 := lt_of_row hb5; clear c5))
    go_ret
    exact ⟨rfl, unhide FIN pb cb W5 ho5 hw5 hn5⟩
end Go.Proofs.YthlacailhfhjnaaGreatDoor
