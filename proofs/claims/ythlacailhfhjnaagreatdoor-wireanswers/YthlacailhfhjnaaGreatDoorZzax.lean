import Derived.Test.YthlacailhfhjnaaGreatDoorZzaw
import Derived.RegionTactic
import Derived.ChangeAlike
namespace Go.Proofs.YthlacailhfhjnaaGreatDoor
open Go.RowKit Go.Lib
def brow (p : Ps) (b : UInt8) : Ps × Nat := if ((p.bd ++ [b]).length : Int) = p.len then ({ p with st := 3, bd := p.bd ++ [b] }, 0) else ({ p with bd := p.bd ++ [b] }, 0)
structure Bod (op P : Nat) (r : Ps × Nat) (nx hv : Value) (L Q Z : Nat) (v : Value) (w w' : World) : Prop where
  at_ : PAt op P r.1 nx hv w'
  lat : r.1.st = 2 → ∃ v', LAt P r.1 L Q Z v' w' ∧ ∀ k, v'.ownBlock = some k → v.ownBlock = some k ∨ w.heap.size ≤ k
  only : Only (OLn P hv L v) w w'
set_option maxHeartbeats 8000000 in
set_option maxRecDepth 8000 in
theorem bodya_any {op P L Q Z : Nat} {p : Ps} {nx hv v : Value} {w : World} (h : PAt op P p nx hv w) (hl : LAt P p L Q Z v w) (hst : p.st = 2) (hbl : (p.bd.length : Int) < p.len) (hlen : p.len ≤ 4000) (b : UInt8) :
    Calls Tryz.prog 148 #[.int .u8 (b.toNat : Int), ptr L, ptr Z, ptr Q] w fun e w' => e = .returned (.int .i64 (brow p b).2) ∧ Bod op P (brow p b) nx hv L Q Z v w w' := by
  obtain ⟨pa, ca, hv0⟩ := owns_form hl.row
  have hcur : cur p = p.bd := by unfold cur; rw [if_neg (by omega)]
  have cL : w.cell? ⟨L, 0, none⟩ = some v := cell_of_row w L 0 _ 102 (0, 0) hl.lb
  rw [hcur] at hv0
  subst hv0
  have HZB := hide (hl.zb hst)
  have hLs := lt_of_row hl.lb
  have hQs := lt_of_row hl.qb
  have hZs := lt_of_row (hl.zb hst)
  have hPs := h.lt
  have HR := hide (by have := hl.row; rw [hcur] at this; exact this)
  have ty : ∀ k cs T, T ≠ 5 → w.heap[k]? = some (.cells cs T (0, 0)) → ¬ (Value.slice pa p.bd.length ca).ownBlock = some k := by
    intro k cs T t1 hk q
    obtain ⟨cs2, q2⟩ := owns_lt hl.row k q
    rw [q2] at hk; simp at hk; exact t1 hk.2.symm
  have HNL := ty L _ 102 (by decide) hl.lb
  have HNQ := ty Q _ 80 (by decide) hl.qb
  have HNZ := ty Z _ 3 (by decide) (hl.zb hst)
  have HNP := ty P _ 91 (by decide) h.blk
  have HLB := hide hl.lb
  have HQB := hide hl.qb
  have HPB := hide h.blk
  have H := hide h
  have HL := hide hl
  have HTY := hide ty
  have HRL : Hid (brow p b = if ((p.bd ++ [b]).length : Int) = p.len then ({ p with st := 3, bd := p.bd ++ [b] }, 0) else ({ p with bd := p.bd ++ [b] }, 0)) := hide rfl
  have h4 : p.bd.length ≤ 4000 := by omega
  generalize brow p b = J at *
  clear h hl ty
  have HST := hide hst
  by_cases hc : (p.bd.length : Int) + 1 = p.len
  · have hJ : J = ({ p with st := 3, bd := p.bd ++ [b] }, 0) := by rw [unhide HRL, if_pos (by simp; omega)]
    have HJ := hide hJ
    clear hJ HRL hst
    have HC := hide hc
    clear hbl
    have hlPL : ∀ j, (⟨P, j, none⟩ : Addr) ≠ ⟨L, 0, none⟩ := fun j e => by
      have : P = L := by injection e
      have q := unhide HPB
      rw [this, unhide HLB] at q
      simp at q
    have e1 : P ≠ L := fun e => hlPL 0 (by rw [e])
    have e2 : Q ≠ L := fun e => by have q := unhide HQB; rw [e, unhide HLB] at q; simp at q
    have e3 : Z ≠ L := fun e => by have q := unhide HZB; rw [e, unhide HLB] at q; simp at q
    go_enter Tryz.func148, Tryz.ntmps148
    go_wp2_with (first | (at_builtin; refine push_own 102 5 _ 1 1 Tryz.underlying102 info5 rfl (by decide) rfl (.tmp 6) (.tmp 8) rfl (.slice pa p.bd.length ca) p.bd.length (p.bd.map B) (by rfl) w (unhide HR) [.int .u8 (b.toNat : Int)] (by rfl) (by intro u hu; simp at hu; rcases hu with rfl; rfl) (by rfl) (by omega) (by omega) ?_; intro pb cb W5 ho5 hw5 hn5; have hb5 := (hw5.block L hLs HNL).trans (unhide HLB); have c5 := (cell_of_row W5 L 0 _ 102 (0, 0) hb5); have z5 := (frozen_of_row W5 L 0 _ 102 hb5); have e5 : W5.cell? ⟨L, 0, none⟩ = some (.slice pa p.bd.length ca) := c5; have l5 := lt_of_row hb5; have zb5 := (hw5.block Z hZs HNZ).trans (unhide HZB); have f5 : W5.cell? ⟨Z, 0, none⟩ = some (.int .i64 p.len) := cell_of_row W5 Z 0 _ 3 (0, 0) zb5; have k5 := lt_of_row zb5; have qb5 := (hw5.block Q hQs HNQ).trans (unhide HQB); have g5 : W5.cell? ⟨Q, 0, none⟩ = some (ptr P) := cell_of_row W5 Q 0 _ 80 (0, 0) qb5; have m5 := lt_of_row qb5; have pb5 := (hw5.block P hPs HNP).trans (unhide HPB); have p50 : W5.cell? ⟨P, 0, none⟩ = some (.int .i64 p.st) := cell_of_row W5 P 0 _ 91 (0, 0) pb5; have p59 : W5.cell? ⟨P, 9, none⟩ = some (S (bdv p)) := cell_of_row W5 P 9 _ 91 (0, 0) pb5; have pz : ∀ j, W5.frozen? ⟨P, j, none⟩ = false := fun j => frozen_of_row W5 P j _ 91 pb5; have n5 := lt_of_row pb5; clear c5))
    have hPL := e1
    have W6P := hide (show W5.heap[P]? = some (.cells (cellsP op p nx hv) 91 (0, 0)) from pb5)
    have HO6 := hide (show (W5.setCell ⟨L, 0, none⟩ (.slice pb (p.bd.length + 1) cb)).ownsRow 0 5 1 (.slice pb (p.bd ++ [b]).length cb) (p.bd ++ [b]).length ((p.bd ++ [b]).map B) from by
      rw [List.length_append, List.map_append]
      exact owns_same ho5 (fun k hk => heap_setCell_other W5 ⟨L, 0, none⟩ k _ (fun q => by
          obtain ⟨cs, q2⟩ := owns_lt ho5 k hk
          simp only at q
          rw [q, hb5] at q2
          simp at q2)))
    have HCV : ((convert 102 9 (.slice pb (p.bd.length + 1) cb)).run Tryz.prog (W5.setCell ⟨L, 0, none⟩ (.slice pb (p.bd.length + 1) cb)).drew = .ok (S (p.bd ++ [b])) (W5.setCell ⟨L, 0, none⟩ (.slice pb (p.bd.length + 1) cb)).drew) := by
      have q := Own.text (base := 0) (v := .slice pb (p.bd ++ [b]).length cb) (X := p.bd ++ [b]) (W0 := (W5.setCell ⟨L, 0, none⟩ (.slice pb (p.bd.length + 1) cb)).drew) (w := (W5.setCell ⟨L, 0, none⟩ (.slice pb (p.bd.length + 1) cb)).drew) ⟨World.ownsRowF_of (owns_same (unhide HO6) (fun k hk => rfl)), Below.refl _ _, Nat.zero_le _⟩
      simpa using q
    have c6L : (W5.setCell ⟨L, 0, none⟩ (.slice pb (p.bd.length + 1) cb)).cell? ⟨L, 0, none⟩ = some (.slice pb (p.bd.length + 1) cb) := by
      rw [cell_of_row _ L 0 _ 102 (0, 0) (heap_setCell_same W5 L 0 _ 102 _ hb5)]; rfl
    have W6P2 := (heap_setCell_other W5 ⟨L, 0, none⟩ P (.slice pb (p.bd.length + 1) cb) hPL).trans pb5
    have W6Q2 := (heap_setCell_other W5 ⟨L, 0, none⟩ Q (.slice pb (p.bd.length + 1) cb) e2).trans qb5
    have c6Q : (W5.setCell ⟨L, 0, none⟩ (.slice pb (p.bd.length + 1) cb)).cell? ⟨Q, 0, none⟩ = some (ptr P) := cell_of_row _ Q 0 _ 80 (0, 0) W6Q2
    have c60 : (W5.setCell ⟨L, 0, none⟩ (.slice pb (p.bd.length + 1) cb)).cell? ⟨P, 0, none⟩ = some (.int .i64 p.st) := cell_of_row _ P 0 _ 91 (0, 0) W6P2
    have c69 : (W5.setCell ⟨L, 0, none⟩ (.slice pb (p.bd.length + 1) cb)).cell? ⟨P, 9, none⟩ = some (S (bdv p)) := cell_of_row _ P 9 _ 91 (0, 0) W6P2
    have z6 : ∀ j, (W5.setCell ⟨L, 0, none⟩ (.slice pb (p.bd.length + 1) cb)).frozen? ⟨P, j, none⟩ = false := fun j => frozen_of_row _ P j _ 91 W6P2
    have HO7 := hide ((hw5.mono (Q := OLn P hv L (.slice pa p.bd.length ca)) (fun k _ q => .inr (.inr q))).put ⟨L, 0, none⟩ (.slice pb (p.bd.length + 1) cb) (.inl (.inr (.inl rfl))))
    have HP7 := hide (show PAt op P p nx hv (W5.setCell ⟨L, 0, none⟩ (.slice pb (p.bd.length + 1) cb)) from ⟨W6P2, by
      have hP5 := (unhide H).keep hw5 HNP (fun k hk => by
        obtain ⟨cs, q⟩ := owns_lt (unhide H).hrow k hk
        exact unhide HTY k cs 35 (by decide) q)
      exact owns_same hP5.hrow (fun k hk => heap_setCell_other W5 ⟨L, 0, none⟩ k _ (fun q => by
          obtain ⟨cs, q2⟩ := owns_lt hP5.hrow k hk
          simp only at q
          rw [q, hb5] at q2
          simp at q2))⟩)
    have hPQ : P ≠ Q := fun e => by have q := W6P2; rw [e, W6Q2] at q; simp at q
    have hQP : ¬ Q = P := fun e => hPQ e.symm
    clear pb5 qb5 zb5 hb5 W6P W6P2 W6Q2 ho5 hw5 hn5 e5 z5 f5 g5 p50 p59 pz l5 k5 m5 n5 HO6
    generalize W5.setCell ⟨L, 0, none⟩ (.slice pb (p.bd.length + 1) cb) = W6 at *
    go_region
    all_goals go_wp2
    all_goals go_ret
    all_goals (
      rw [unhide HJ]
      refine ⟨rfl, ⟨⟨?_, ?_⟩, fun q => by simp at q, ?_⟩⟩
      · have q1 := heap_setCell_same W6 P 9 _ 91 (S (p.bd ++ [b])) (unhide HP7).blk
        have q2 := heap_setCell_same _ P 0 _ 91 (.int .i64 3) q1
        refine Eq.trans q2 ?_
        simp [cellsP, bdv]
      · refine owns_same (unhide HP7).hrow (fun k hk => ?_)
        have hk2 : k ≠ P := fun e => (unhide HP7).ne (by rw [hk, e])
        exact (heap_setCell_other _ ⟨P, 0, none⟩ k _ hk2).trans (heap_setCell_other W6 ⟨P, 9, none⟩ k _ hk2)
      · exact (((unhide HO7).put ⟨P, 9, none⟩ _ (.inl (.inl (.inl rfl)))).put ⟨P, 0, none⟩ _ (.inl (.inl (.inl rfl)))).trans (Only.drew _ _) (fun _ _ q => q))
  · have hJ : J = ({ p with bd := p.bd ++ [b] }, 0) := by rw [unhide HRL, if_neg (by simp; omega)]
    have HJ := hide hJ
    clear hJ HRL hst
    have e1 : P ≠ L := fun e => by have q := unhide HPB; rw [e, unhide HLB] at q; simp at q
    have e2 : Q ≠ L := fun e => by have q := unhide HQB; rw [e, unhide HLB] at q; simp at q
    have e3 : Z ≠ L := fun e => by have q := unhide HZB; rw [e, unhide HLB] at q; simp at q
    go_enter Tryz.func148, Tryz.ntmps148
    go_wp2_with (first | (at_builtin; refine push_own 102 5 _ 1 1 Tryz.underlying102 info5 rfl (by decide) rfl (.tmp 6) (.tmp 8) rfl (.slice pa p.bd.length ca) p.bd.length (p.bd.map B) (by rfl) w (unhide HR) [.int .u8 (b.toNat : Int)] (by rfl) (by intro u hu; simp at hu; rcases hu with rfl; rfl) (by rfl) (by omega) (by omega) ?_; intro pb cb W5 ho5 hw5 hn5; have hb5 := (hw5.block L hLs HNL).trans (unhide HLB); have c5 := (cell_of_row W5 L 0 _ 102 (0, 0) hb5); have z5 := (frozen_of_row W5 L 0 _ 102 hb5); have e5 : W5.cell? ⟨L, 0, none⟩ = some (.slice pa p.bd.length ca) := c5; have l5 := lt_of_row hb5; have zb5 := (hw5.block Z hZs HNZ).trans (unhide HZB); have f5 : W5.cell? ⟨Z, 0, none⟩ = some (.int .i64 p.len) := cell_of_row W5 Z 0 _ 3 (0, 0) zb5; have k5 := lt_of_row zb5; have qb5 := (hw5.block Q hQs HNQ).trans (unhide HQB); have g5 : W5.cell? ⟨Q, 0, none⟩ = some (ptr P) := cell_of_row W5 Q 0 _ 80 (0, 0) qb5; have m5 := lt_of_row qb5; have pb5 := (hw5.block P hPs HNP).trans (unhide HPB); have p50 : W5.cell? ⟨P, 0, none⟩ = some (.int .i64 p.st) := cell_of_row W5 P 0 _ 91 (0, 0) pb5; have p59 : W5.cell? ⟨P, 9, none⟩ = some (S (bdv p)) := cell_of_row W5 P 9 _ 91 (0, 0) pb5; have pz : ∀ j, W5.frozen? ⟨P, j, none⟩ = false := fun j => frozen_of_row W5 P j _ 91 pb5; have n5 := lt_of_row pb5; clear c5))
    go_ret
    rw [unhide HJ]
    have hP5 := (unhide H).keep hw5 HNP (fun k hk => by
        obtain ⟨cs, q⟩ := owns_lt (unhide H).hrow k hk
        exact unhide HTY k cs 35 (by decide) q)
    refine ⟨rfl, ⟨⟨?_, ?_⟩, fun q => ⟨.slice pb (p.bd.length + 1) cb, ⟨?_, ?_, fun _ => ?_, ?_⟩, hn5⟩, (hw5.mono (Q := OLn P hv L (.slice pa p.bd.length ca)) (fun k _ q => .inr (.inr q))).put ⟨L, 0, none⟩ (.slice pb (p.bd.length + 1) cb) (.inl (.inr (.inl rfl)))⟩⟩
    · rw [heap_setCell_other W5 ⟨L, 0, none⟩ P _ e1, pb5]
      simp [cellsP, bdv, unhide HST]
    · exact owns_same hP5.hrow (fun k hk => heap_setCell_other W5 ⟨L, 0, none⟩ k _ (fun q => by
          obtain ⟨cs, q2⟩ := owns_lt hP5.hrow k hk
          simp only at q
          rw [q, hb5] at q2
          simp at q2))
    · rw [heap_setCell_same W5 L 0 _ 102 _ hb5]; rfl
    · rw [heap_setCell_other W5 ⟨L, 0, none⟩ Q _ e2]; exact qb5
    · rw [heap_setCell_other W5 ⟨L, 0, none⟩ Z _ e3]; exact zb5
    · have e4 : cur { p with bd := p.bd ++ [b] } = p.bd ++ [b] := by unfold cur; rw [if_neg (by show ¬ p.st ≤ 1; have := unhide HST; omega)]
      rw [e4, List.length_append, List.map_append]
      exact owns_same ho5 (fun k hk => heap_setCell_other W5 ⟨L, 0, none⟩ k _ (fun q => by
          obtain ⟨cs, q2⟩ := owns_lt ho5 k hk
          simp only at q
          rw [q, hb5] at q2
          simp at q2))
end Go.Proofs.YthlacailhfhjnaaGreatDoor
namespace Go.Proofs.YthlacailhfhjnaaGreatDoor
open Go.RowKit Go.Lib
/-- What a parser under way keeps to. -/
def OkP (p : Ps) : Prop := p.st ≤ 2 ∧ p.len ≤ 4000 ∧ p.hs.length ≤ 32 ∧ p.ln.length ≤ 1001 ∧ (p.st ≤ 1 → p.bd = []) ∧ (p.st = 2 → (p.bd.length : Int) < p.len)
theorem okP0 : OkP p0 := ⟨by decide, by decide, by decide, by decide, fun _ => rfl, fun h => by simp [p0] at h⟩
theorem jLen_ok (p : Ps) (v : Bs) (h : (jLen p v).2 = 0) : (jLen p v).1.len ≤ 4000 ∧ (jLen p v).1.hs = p.hs ∧ (jLen p v).1.bd = p.bd := by
  unfold jLen at h ⊢
  split
  · rename_i h1; rw [if_pos h1] at h; simp at h
  · split
    · rename_i h1 h2; rw [if_neg h1, if_pos h2] at h; simp at h
    · rename_i h2; exact ⟨by simp; omega, rfl, rfl⟩
theorem judge_ok (op : Bs → Option Fst) (p : Ps) (e : Bs) (h : (judge op p e).2 = 0) (hp : OkP p) (hst : p.st ≤ 1) (h3 : (judge op p e).1.st ≠ 3) : OkP (judge op p e).1 := by
  obtain ⟨a1, a2, a3, a4, a5, a6⟩ := hp
  have hln := (judge_st op p e hst).2 h
  unfold judge at h h3 hln ⊢
  split
  · rename_i h1
    rw [if_pos h1] at h h3 hln
    unfold jFst at h h3 hln ⊢
    split
    · rename_i h2; rw [h2] at h; simp at h
    · rename_i h2
      rw [h2] at h
      split
      · exact ⟨by simp, a2, a3, a4, fun _ => a5 hst, fun q => by simp at q⟩
      · rename_i h4; simp [h4] at h
  · rename_i h1
    rw [if_neg h1] at h h3 hln
    split
    · rename_i h2
      rw [if_pos h2] at h3
      unfold jEnd at h3 ⊢
      split
      · rename_i h4; rw [if_pos h4] at h3; simp at h3
      · rename_i h4
        exact ⟨by simp, a2, a3, a4, fun q => by simp at q, fun _ => by simp only [a5 hst]; simp; omega⟩
    · rename_i h2
      rw [if_neg h2] at h h3 hln
      have hr := jHdr_rd p _ _ h
      unfold jHdr at h h3 hln hr ⊢
      split
      · rename_i h4; rw [if_pos h4] at h; simp at h
      · rename_i h4
        rw [if_neg h4] at h h3 hln hr
        split
        · rename_i h5
          rw [if_pos h5] at h h3 hln hr
          have hj := jLen_ok p _ h
          exact ⟨by rw [hr.2.1]; omega, hj.1, by rw [hj.2.1]; exact a3, by rw [hln]; exact a4, fun _ => by rw [hj.2.2]; exact a5 hst, fun q => by rw [hr.2.1] at q; omega⟩
        · rename_i h5
          rw [if_neg h5] at h
          split
          · rename_i h6; rw [if_pos h6] at h; simp at h
          · rename_i h6
            exact ⟨a1, a2, by simp; omega, a4, a5, a6⟩
theorem step_ok (op : Bs → Option Fst) (p : Ps) (b : UInt8) (hp : OkP p) (h : (step op p b).2 = 0) (h3 : (step op p b).1.st ≠ 3) : OkP (step op p b).1 := by
  obtain ⟨a1, a2, a3, a4, a5, a6⟩ := hp
  unfold step at h h3 ⊢
  split
  · rename_i h1
    rw [if_pos h1] at h h3
    split
    · rename_i h2
      rw [if_pos h2] at h h3
      exact judge_ok op _ _ h ⟨a1, a2, a3, by simp, a5, a6⟩ h1 h3
    · rename_i h2
      rw [if_neg h2] at h
      split
      · rename_i h4; rw [if_pos h4] at h; simp at h
      · rename_i h4
        exact ⟨a1, a2, a3, by simp; omega, a5, a6⟩
  · rename_i h1
    rw [if_neg h1] at h3
    split
    · rename_i h2; rw [if_pos h2] at h3; simp at h3
    · rename_i h2
      refine ⟨a1, a2, a3, a4, fun q => absurd q h1, fun q => ?_⟩
      have := a6 q
      simp at h2 ⊢
      omega
/-- A parser in memory, with the blocks that are its own. -/
structure Par (op P : Nat) (p : Ps) (O : Nat → Prop) (w : World) : Prop where
  ex : ∃ nx hv, PAt op P p nx hv w ∧ (∀ k, hv.ownBlock = some k → O k) ∧ (p.st ≤ 2 → ∃ L Q Z v, nx = nxt p.st L Q Z ∧ LAt P p L Q Z v w ∧ O L ∧ O Q ∧ (p.st = 2 → O Z) ∧ ∀ k, v.ownBlock = some k → O k)
  inP : O P
  lt : ∀ k, O k → k < w.heap.size
def fpr (P : Nat) (st L Q Z : Nat) (v hv : Value) : Nat → Prop := fun k => k = P ∨ hv.ownBlock = some k ∨ (st ≤ 2 ∧ (k = L ∨ k = Q ∨ v.ownBlock = some k)) ∨ (st = 2 ∧ k = Z)
theorem Par.make {op P L Q Z : Nat} {p : Ps} {nx hv v : Value} {w : World} (h : PAt op P p nx hv w) (hl : p.st ≤ 2 → nx = nxt p.st L Q Z ∧ LAt P p L Q Z v w) : Par op P p (fpr P p.st L Q Z v hv) w := by
  refine ⟨⟨nx, hv, h, fun k hk => .inr (.inl hk), fun q => ⟨L, Q, Z, v, (hl q).1, (hl q).2, .inr (.inr (.inl ⟨q, .inl rfl⟩)), .inr (.inr (.inl ⟨q, .inr (.inl rfl)⟩)), fun q2 => .inr (.inr (.inr ⟨q2, rfl⟩)), fun k hk => .inr (.inr (.inl ⟨q, .inr (.inr hk)⟩))⟩⟩, .inl rfl, ?_⟩
  intro k hk
  rcases hk with rfl | hk | ⟨q, rfl | rfl | hk⟩ | ⟨q, rfl⟩
  · exact h.lt
  · obtain ⟨cs, q⟩ := owns_lt h.hrow k hk
    exact lt_of_row q
  · exact lt_of_row (hl q).2.lb
  · exact lt_of_row (hl q).2.qb
  · obtain ⟨cs, q2⟩ := owns_lt (hl q).2.row k hk
    exact lt_of_row q2
  · exact lt_of_row ((hl (by omega)).2.zb q)
theorem Par.keep {op P : Nat} {p : Ps} {O X : Nat → Prop} {w w' : World} (h : Par op P p O w) (ho : Only X w w') (hx : ∀ k, O k → ¬ X k) : Par op P p O w' := by
  obtain ⟨⟨nx, hv, h1, h2, h3⟩, h4, h5⟩ := h
  refine ⟨⟨nx, hv, h1.keep ho (hx P h4) (fun k hk => hx k (h2 k hk)), h2, fun q => ?_⟩, h4, fun k hk => Nat.lt_of_lt_of_le (h5 k hk) ho.size⟩
  obtain ⟨L, Q, Z, v, e, g, o1, o2, o3, o4⟩ := h3 q
  refine ⟨L, Q, Z, v, e, ⟨(ho.block L (lt_of_row g.lb) (hx L o1)).trans g.lb, (ho.block Q (lt_of_row g.qb) (hx Q o2)).trans g.qb, fun q2 => (ho.block Z (lt_of_row (g.zb q2)) (hx Z (o3 q2))).trans (g.zb q2), owns_same g.row (fun k hk => ?_)⟩, o1, o2, o3, o4⟩
  obtain ⟨cs, q⟩ := owns_lt g.row k hk
  exact ho.block k (lt_of_row q) (hx k (o4 k hk))
theorem Par.below {op P : Nat} {p : Ps} {O : Nat → Prop} {w w' : World} (h : Par op P p O w) (hb : Below w.heap.size w w') : Par op P p O w' := h.keep (Only.of_below (P := fun _ => False) hb) (fun _ _ q => q)
/-- What p.next leaves. -/
structure Nx (op P : Nat) (r : Ps × Nat) (O : Nat → Prop) (w w' : World) : Prop where
  ok : r.2 = 0 → r.1.st ≤ 3 → ∃ O', Par op P r.1 O' w' ∧ ∀ k, O' k → O k ∨ w.heap.size ≤ k
  bad : ∃ p' nx' hv', PAt op P p' nx' hv' w' ∧ (r.2 = 0 → p' = r.1)
  only : Only O w w'
theorem Lin.nx {op P L Q Z : Nat} {r : Ps × Nat} {nx hv v : Value} {O : Nat → Prop} {w w' : World} {st : Nat} (h : Lin op P r nx hv L Q Z v w w') (hst : st ≤ 1) (hnx : nx = nxt st L Q Z) (o1 : O P) (o2 : ∀ k, hv.ownBlock = some k → O k) (o3 : O L) (o4 : O Q) (o5 : ∀ k, v.ownBlock = some k → O k) : Nx op P r O w w' := by
  obtain ⟨⟨p', nx', hv', a1, a2, a3, a4, a5⟩, a6⟩ := h
  refine ⟨fun q hq3 => ?_, ⟨p', nx', hv', a1, a2⟩, a6.mono (fun k _ q => ?_)⟩
  · have e := a2 q
    subst e
    by_cases h1 : r.1.st ≤ 1
    · obtain ⟨b1, v', b2, b3⟩ := a4 q h1
      subst b1
      have en : nx' = nxt r.1.st L Q Z := by rw [hnx]; unfold nxt; rw [if_pos h1, if_pos hst]
      refine ⟨_, Par.make a1 (fun _ => ⟨en, b2⟩), ?_⟩
      intro k hk
      rcases hk with rfl | hk | ⟨_, rfl | rfl | hk⟩ | ⟨q, rfl⟩
      · exact .inl o1
      · rcases a3 k hk with q | q
        · exact .inl (o2 k q)
        · exact .inr q
      · exact .inl o3
      · exact .inl o4
      · rcases b3 k hk with q | q
        · exact .inl (o5 k q)
        · exact .inr q
      · omega
    · by_cases h2 : r.1.st = 2
      · obtain ⟨L', Q', Z', v', b1, b2, b3, b4, b5, b6⟩ := a5 q h2
        refine ⟨_, Par.make a1 (fun _ => ⟨by rw [h2]; exact b1, b2⟩), ?_⟩
        intro k hk
        rcases hk with rfl | hk | ⟨_, rfl | rfl | hk⟩ | ⟨q, rfl⟩
        · exact .inl o1
        · rcases a3 k hk with q | q
          · exact .inl (o2 k q)
          · exact .inr q
        · exact .inr b3
        · exact .inr b4
        · exact .inr (b6 k hk)
        · exact .inr b5
      · refine ⟨_, Par.make (L := 0) (Q := 0) (Z := 0) (v := .nilFunc) a1 (fun q => by omega), ?_⟩
        intro k hk
        rcases hk with rfl | hk | ⟨q, _⟩ | ⟨q, rfl⟩
        · exact .inl o1
        · rcases a3 k hk with q | q
          · exact .inl (o2 k q)
          · exact .inr q
        · omega
        · omega
  · rcases q with (rfl | q) | rfl | q
    · exact o1
    · exact o2 k q
    · exact o3
    · exact o5 k q
theorem Bod.nx {op P L Q Z : Nat} {r : Ps × Nat} {nx hv v : Value} {O : Nat → Prop} {w w' : World} (h : Bod op P r nx hv L Q Z v w w') (hr : r.1.st = 2 ∨ r.1.st = 3) (hnx : nx = nxt 2 L Q Z) (o1 : O P) (o2 : ∀ k, hv.ownBlock = some k → O k) (o3 : O L) (o4 : O Q) (o6 : O Z) (o5 : ∀ k, v.ownBlock = some k → O k) : Nx op P r O w w' := by
  obtain ⟨a1, a2, a6⟩ := h
  refine ⟨fun q hq3 => ?_, ⟨r.1, nx, hv, a1, fun _ => rfl⟩, a6.mono (fun k _ q => ?_)⟩
  · rcases hr with h2 | h2
    · obtain ⟨v', b2, b3⟩ := a2 h2
      refine ⟨_, Par.make a1 (fun _ => ⟨by rw [h2]; exact hnx, b2⟩), ?_⟩
      intro k hk
      rcases hk with rfl | hk | ⟨_, rfl | rfl | hk⟩ | ⟨q, rfl⟩
      · exact .inl o1
      · exact .inl (o2 k hk)
      · exact .inl o3
      · exact .inl o4
      · rcases b3 k hk with q | q
        · exact .inl (o5 k q)
        · exact .inr q
      · exact .inl o6
    · refine ⟨_, Par.make (L := 0) (Q := 0) (Z := 0) (v := .nilFunc) a1 (fun q => by omega), ?_⟩
      intro k hk
      rcases hk with rfl | hk | ⟨q, _⟩ | ⟨q, rfl⟩
      · exact .inl o1
      · exact .inl (o2 k hk)
      · omega
      · omega
  · rcases q with (rfl | q) | rfl | q
    · exact o1
    · exact o2 k q
    · exact o3
    · exact o5 k q
end Go.Proofs.YthlacailhfhjnaaGreatDoor
