import Derived.Test.YthlacailhfhjnaaGreatDoorZzax
namespace Go.Proofs.YthlacailhfhjnaaGreatDoor
open Go.RowKit Go.Lib
def povC : Array Value := #[.int .i64 4, .nilFunc, .nilFunc, .int .i64 0, S [], S [], .int .i64 0, .slice none 0 0, .int .i64 0, S []]
def POv (P : Nat) (w : World) : Prop := w.heap[P]? = some (.cells povC 91 (0, 0))
theorem set10 (a0 a1 a2 a3 a4 a5 a6 a7 a8 a9 b0 b1 b2 b3 b4 b5 b6 b7 b8 b9 : Value) : ((((((((((#[a0, a1, a2, a3, a4, a5, a6, a7, a8, a9] : Array Value).setIfInBounds 0 b0).setIfInBounds 1 b1).setIfInBounds 2 b2).setIfInBounds 3 b3).setIfInBounds 4 b4).setIfInBounds 5 b5).setIfInBounds 6 b6).setIfInBounds 7 b7).setIfInBounds 8 b8).setIfInBounds 9 b9 = #[b0, b1, b2, b3, b4, b5, b6, b7, b8, b9] := by simp
/-- All ten cells of a block set anew. -/
theorem row10 {w : World} {P : Nat} {a0 a1 a2 a3 a4 a5 a6 a7 a8 a9 : Value} (h : w.heap[P]? = some (.cells #[a0, a1, a2, a3, a4, a5, a6, a7, a8, a9] 91 (0, 0))) (b0 b1 b2 b3 b4 b5 b6 b7 b8 b9 : Value) :
    ((((((((((w.setCell ⟨P, 0, none⟩ b0).setCell ⟨P, 1, none⟩ b1).setCell ⟨P, 2, none⟩ b2).setCell ⟨P, 3, none⟩ b3).setCell ⟨P, 4, none⟩ b4).setCell ⟨P, 5, none⟩ b5).setCell ⟨P, 6, none⟩ b6).setCell ⟨P, 7, none⟩ b7).setCell ⟨P, 8, none⟩ b8).setCell ⟨P, 9, none⟩ b9).heap[P]? = some (.cells #[b0, b1, b2, b3, b4, b5, b6, b7, b8, b9] 91 (0, 0)) := by
  have q0 := heap_setCell_same _ P 0 _ 91 b0 h
  have q1 := heap_setCell_same _ P 1 _ 91 b1 q0
  have q2 := heap_setCell_same _ P 2 _ 91 b2 q1
  have q3 := heap_setCell_same _ P 3 _ 91 b3 q2
  have q4 := heap_setCell_same _ P 4 _ 91 b4 q3
  have q5 := heap_setCell_same _ P 5 _ 91 b5 q4
  have q6 := heap_setCell_same _ P 6 _ 91 b6 q5
  have q7 := heap_setCell_same _ P 7 _ 91 b7 q6
  have q8 := heap_setCell_same _ P 8 _ 91 b8 q7
  have q9 := heap_setCell_same _ P 9 _ 91 b9 q8
  rw [q9, set10]
/-- What take leaves. -/
structure Tk (op P : Nat) (r : Ps × Nat) (O : Nat → Prop) (w w' : World) : Prop where
  ok : r.2 = 0 → ∃ O', Par op P r.1 O' w' ∧ ∀ k, O' k → O k ∨ w.heap.size ≤ k
  bad : r.2 ≠ 0 → POv P w'
  only : Only O w w'
theorem next47_line {B P L Q Z : Nat} {p : Ps} {nx hv v : Value} {O : Nat → Prop} {w : World} (h : PAt 47 P p nx hv w) (hl : LAt P p L Q Z v w) (hE : Env B w) (hok : OkL p) (hnx : nx = nxt p.st L Q Z) (hB : ∀ k, O k → B ≤ k) (o1 : O P) (o2 : ∀ k, hv.ownBlock = some k → O k) (o3 : O L) (o4 : O Q) (o5 : ∀ k, v.ownBlock = some k → O k) (b : UInt8) :
    Calls Tryz.prog 99 #[.int .u8 (b.toNat : Int), ptr L, ptr Q] w fun e w' => e = .returned (.int .i64 (if b = 10 then judge opM { p with ln := [] } p.ln else lrow p b).2) ∧ Nx 47 P (if b = 10 then judge opM { p with ln := [] } p.ln else lrow p b) O w w' := by
  by_cases hb : b = 10
  · subst hb
    refine (linef47_any h hl hE (hB L o3) hok).mono ?_
    rintro e w' ⟨he, hn⟩
    exact ⟨by rw [he, if_pos rfl], by rw [if_pos rfl]; exact hn.nx hok.1 hnx o1 o2 o3 o4 o5⟩
  · refine (linea_any h hl hok b hb).mono ?_
    rintro e w' ⟨he, hn⟩
    exact ⟨by rw [he, if_neg hb], by rw [if_neg hb]; exact hn.nx hok.1 hnx o1 o2 o3 o4 o5⟩
set_option maxHeartbeats 8000000 in
set_option maxRecDepth 8000 in
theorem take47_any {B P : Nat} {p : Ps} {O : Nat → Prop} {w : World} (h : Par 47 P p O w) (hE : Env B w) (hB : ∀ k, O k → B ≤ k) (hok : OkP p) (hrd : p.rd ≤ 4000000000000000000) (b : UInt8) :
    Calls Tryz.prog 48 #[ptr P, .int .u8 (b.toNat : Int)] w fun e w' => e = .returned (.int .i64 (step opM p b).2) ∧ Tk 47 P (step opM p b) O w w' := by
  obtain ⟨⟨nx, hv, h1, h2, h3⟩, h4, h5⟩ := h
  obtain ⟨L, Q, Z, v, hnx, hL, o1, o2, o3, o4⟩ := h3 hok.1
  have c3 : w.cell? ⟨P, 3, none⟩ = some (.int .i64 p.rd) := h1.cell 3
  have c1 : w.cell? ⟨P, 1, none⟩ = some nx := h1.cell 1
  have z3 : ∀ j, w.frozen? ⟨P, j, none⟩ = false := h1.fz
  have hlt := h1.lt
  have P1 := h1.set 3 (.int .i64 ((p.rd + 1 : Nat) : Int)) (op' := 47) (nx' := nx) (p' := { p with rd := p.rd + 1 }) rfl rfl
  have hPL : P ≠ L := fun e => by have := h1.blk; rw [e, hL.lb] at this; simp at this
  have hPQ : P ≠ Q := fun e => by have := h1.blk; rw [e, hL.qb] at this; simp at this
  have hPv : ∀ k, v.ownBlock = some k → ¬ k = P := fun k hk e => by
    obtain ⟨cs, q⟩ := owns_lt hL.row k hk
    rw [e, h1.blk] at q
    simp at q
  have L1 : LAt P { p with rd := p.rd + 1 } L Q Z v (w.setCell ⟨P, 3, none⟩ (.int .i64 ((p.rd + 1 : Nat) : Int))) := by
    refine ⟨?_, ?_, fun q => ?_, ?_⟩
    · rw [heap_setCell_other w ⟨P, 3, none⟩ L _ (fun e => hPL e.symm)]; exact hL.lb
    · rw [heap_setCell_other w ⟨P, 3, none⟩ Q _ (fun e => hPQ e.symm)]; exact hL.qb
    · have hz := hL.zb q
      rw [heap_setCell_other w ⟨P, 3, none⟩ Z _ (fun e => by simp only at e; rw [e, h1.blk] at hz; simp at hz)]; exact hz
    · exact owns_same hL.row (fun k hk => heap_setCell_other w ⟨P, 3, none⟩ k _ (hPv k hk))
  have O1 := hide ((Only.refl O w).put ⟨P, 3, none⟩ (.int .i64 ((p.rd + 1 : Nat) : Int)) (.inl h4))
  have E1 := hE.only (unhide O1) hB
  have hsz : (w.setCell ⟨P, 3, none⟩ (.int .i64 ((p.rd + 1 : Nat) : Int))).heap.size = w.heap.size := by simp [World.setCell]
  have H4 := hide h4
  have e31 : (⟨P, 3, none⟩ : Addr) ≠ ⟨P, 1, none⟩ := by simp
  have fin : ∀ w2, Nx 47 P (step opM p b) O (w.setCell ⟨P, 3, none⟩ (.int .i64 ((p.rd + 1 : Nat) : Int))) w2 → (step opM p b).2 = 0 → Tk 47 P (step opM p b) O w w2 := by
    intro w2 hn q
    refine ⟨fun _ => ?_, fun q2 => absurd q q2, (unhide O1).trans hn.only (fun _ _ q => q)⟩
    obtain ⟨O', a1, a2⟩ := hn.ok q (step_rd opM p b q (by have := hok.1; omega)).2
    exact ⟨O', a1, fun k hk => by rw [← hsz]; exact a2 k hk⟩
  have FIN := hide fin
  have hS : step opM p b = if p.st ≤ 1 then (if b = 10 then judge opM { ({ p with rd := p.rd + 1 } : Ps) with ln := [] } p.ln else lrow { p with rd := p.rd + 1 } b) else brow { p with rd := p.rd + 1 } b := rfl
  obtain ⟨k1, k2, k3, k4, k5, k6⟩ := hok
  have HRD := hide (show (p.rd : Int) + 1 = ((p.rd + 1 : Nat) : Int) by omega)
  by_cases hst : p.st ≤ 1
  · rw [if_pos hst] at hS
    have HN := hide (next47_line (O := O) P1 L1 E1 ⟨hst, k5 hst, k2, k3, k4⟩ hnx hB h4 h2 o1 o2 o4 b)
    rw [← hS] at HN
    have en : nx = .func (.func 99) #[] #[ptr L, ptr Q] := by rw [hnx]; unfold nxt; rw [if_pos hst]
    rw [en] at c1
    clear h1 h2 h3 h5 P1 L1 E1 hE fin hL o1 o2 o3 o4 hS hnx h4 k5 k6 hst en
    generalize step opM p b = J at *
    go_enter Tryz.func48, Tryz.ntmps48
    go_wp2_with fail
    rw [unhide HRD]
    refine (unhide HN).mono ?_
    rintro e w2 ⟨rfl, hn⟩
    have HNX := hide hn
    obtain ⟨p', nx', hv', hbad, _⟩ := hn.bad
    have HB := hide hbad
    have d0 := hbad.cell 0
    have d1 := hbad.cell 1
    have d2 := hbad.cell 2
    have d3 := hbad.cell 3
    have d4 := hbad.cell 4
    have d5 := hbad.cell 5
    have d6 := hbad.cell 6
    have d7 := hbad.cell 7
    have d8 := hbad.cell 8
    have d9 := hbad.cell 9
    have dz : ∀ j, w2.frozen? ⟨P, j, none⟩ = false := hbad.fz
    have dl := hbad.lt
    simp only [cellsP, List.getElem?_toArray, List.getElem?_cons_zero, List.getElem?_cons_succ] at d0 d1 d2 d3 d4 d5 d6 d7 d8 d9
    clear hn hbad
    by_cases hJ : J.2 = 0
    · have HJ := hide hJ
      have iJ : ((J.2 : Nat) : Int) = 0 := by omega
      clear hJ
      go_wp2
      go_ret
      exact ⟨ret_int (by have := unhide HJ; omega), unhide FIN w2 (unhide HNX) (unhide HJ)⟩
    · have HJ := hide hJ
      have iJ : ¬ ((J.2 : Nat) : Int) = 0 := by omega
      clear hJ
      go_wp2
      go_ret
      have q9 := hide (row10 (unhide HB).blk (.int .i64 4) .nilFunc .nilFunc (.int .i64 0) (S []) (S []) (.int .i64 0) (.slice none 0 0) (.int .i64 0) (S []))
      exact ⟨rfl, ⟨fun q => absurd q (unhide HJ), fun _ => unhide q9, (((((((((((unhide O1).trans (unhide HNX).only (fun _ _ q => q)).put ⟨P, 0, none⟩ _ (.inl (unhide H4))).put ⟨P, 1, none⟩ _ (.inl (unhide H4))).put ⟨P, 2, none⟩ _ (.inl (unhide H4))).put ⟨P, 3, none⟩ _ (.inl (unhide H4))).put ⟨P, 4, none⟩ _ (.inl (unhide H4))).put ⟨P, 5, none⟩ _ (.inl (unhide H4))).put ⟨P, 6, none⟩ _ (.inl (unhide H4))).put ⟨P, 7, none⟩ _ (.inl (unhide H4))).put ⟨P, 8, none⟩ _ (.inl (unhide H4))).put ⟨P, 9, none⟩ _ (.inl (unhide H4))⟩⟩
  · rw [if_neg hst] at hS
    have hst2 : p.st = 2 := by omega
    have HN := hide ((bodya_any P1 L1 hst2 (k6 hst2) k2 b).mono (fun e w' hh => (show e = .returned (.int .i64 (brow { p with rd := p.rd + 1 } b).2) ∧ Nx 47 P (brow { p with rd := p.rd + 1 } b) O (w.setCell ⟨P, 3, none⟩ (.int .i64 ((p.rd + 1 : Nat) : Int))) w' from ⟨hh.1, hh.2.nx (by
      unfold brow
      split
      · right; rfl
      · left; exact hst2) (by rw [hnx, hst2]) h4 h2 o1 o2 (o3 hst2) o4⟩)))
    rw [← hS] at HN
    have en : nx = .func (.func 148) #[] #[ptr L, ptr Z, ptr Q] := by rw [hnx]; unfold nxt; rw [if_neg hst]
    rw [en] at c1
    clear h1 h2 h3 h5 P1 L1 E1 hE fin hL o1 o2 o3 o4 hS hnx h4 k5 k6 hst en hst2
    generalize step opM p b = J at *
    go_enter Tryz.func48, Tryz.ntmps48
    go_wp2_with fail
    rw [unhide HRD]
    refine (unhide HN).mono ?_
    rintro e w2 ⟨rfl, hn⟩
    have HNX := hide hn
    obtain ⟨p', nx', hv', hbad, _⟩ := hn.bad
    have HB := hide hbad
    have d0 := hbad.cell 0
    have d1 := hbad.cell 1
    have d2 := hbad.cell 2
    have d3 := hbad.cell 3
    have d4 := hbad.cell 4
    have d5 := hbad.cell 5
    have d6 := hbad.cell 6
    have d7 := hbad.cell 7
    have d8 := hbad.cell 8
    have d9 := hbad.cell 9
    have dz : ∀ j, w2.frozen? ⟨P, j, none⟩ = false := hbad.fz
    have dl := hbad.lt
    simp only [cellsP, List.getElem?_toArray, List.getElem?_cons_zero, List.getElem?_cons_succ] at d0 d1 d2 d3 d4 d5 d6 d7 d8 d9
    clear hn hbad
    by_cases hJ : J.2 = 0
    · have HJ := hide hJ
      have iJ : ((J.2 : Nat) : Int) = 0 := by omega
      clear hJ
      go_wp2
      go_ret
      exact ⟨ret_int (by have := unhide HJ; omega), unhide FIN w2 (unhide HNX) (unhide HJ)⟩
    · have HJ := hide hJ
      have iJ : ¬ ((J.2 : Nat) : Int) = 0 := by omega
      clear hJ
      go_wp2
      go_ret
      have q9 := hide (row10 (unhide HB).blk (.int .i64 4) .nilFunc .nilFunc (.int .i64 0) (S []) (S []) (.int .i64 0) (.slice none 0 0) (.int .i64 0) (S []))
      exact ⟨rfl, ⟨fun q => absurd q (unhide HJ), fun _ => unhide q9, (((((((((((unhide O1).trans (unhide HNX).only (fun _ _ q => q)).put ⟨P, 0, none⟩ _ (.inl (unhide H4))).put ⟨P, 1, none⟩ _ (.inl (unhide H4))).put ⟨P, 2, none⟩ _ (.inl (unhide H4))).put ⟨P, 3, none⟩ _ (.inl (unhide H4))).put ⟨P, 4, none⟩ _ (.inl (unhide H4))).put ⟨P, 5, none⟩ _ (.inl (unhide H4))).put ⟨P, 6, none⟩ _ (.inl (unhide H4))).put ⟨P, 7, none⟩ _ (.inl (unhide H4))).put ⟨P, 8, none⟩ _ (.inl (unhide H4))).put ⟨P, 9, none⟩ _ (.inl (unhide H4))⟩⟩
theorem next69_line {B P L Q Z : Nat} {p : Ps} {nx hv v : Value} {O : Nat → Prop} {w : World} (h : PAt 69 P p nx hv w) (hl : LAt P p L Q Z v w) (hE : Env B w) (hok : OkL p) (hnx : nx = nxt p.st L Q Z) (hB : ∀ k, O k → B ≤ k) (o1 : O P) (o2 : ∀ k, hv.ownBlock = some k → O k) (o3 : O L) (o4 : O Q) (o5 : ∀ k, v.ownBlock = some k → O k) (b : UInt8) :
    Calls Tryz.prog 99 #[.int .u8 (b.toNat : Int), ptr L, ptr Q] w fun e w' => e = .returned (.int .i64 (if b = 10 then judge opA { p with ln := [] } p.ln else lrow p b).2) ∧ Nx 69 P (if b = 10 then judge opA { p with ln := [] } p.ln else lrow p b) O w w' := by
  by_cases hb : b = 10
  · subst hb
    refine (linef69_any h hl hE (hB L o3) hok).mono ?_
    rintro e w' ⟨he, hn⟩
    exact ⟨by rw [he, if_pos rfl], by rw [if_pos rfl]; exact hn.nx hok.1 hnx o1 o2 o3 o4 o5⟩
  · refine (linea_any h hl hok b hb).mono ?_
    rintro e w' ⟨he, hn⟩
    exact ⟨by rw [he, if_neg hb], by rw [if_neg hb]; exact hn.nx hok.1 hnx o1 o2 o3 o4 o5⟩
set_option maxHeartbeats 8000000 in
set_option maxRecDepth 8000 in
theorem take69_any {B P : Nat} {p : Ps} {O : Nat → Prop} {w : World} (h : Par 69 P p O w) (hE : Env B w) (hB : ∀ k, O k → B ≤ k) (hok : OkP p) (hrd : p.rd ≤ 4000000000000000000) (b : UInt8) :
    Calls Tryz.prog 48 #[ptr P, .int .u8 (b.toNat : Int)] w fun e w' => e = .returned (.int .i64 (step opA p b).2) ∧ Tk 69 P (step opA p b) O w w' := by
  obtain ⟨⟨nx, hv, h1, h2, h3⟩, h4, h5⟩ := h
  obtain ⟨L, Q, Z, v, hnx, hL, o1, o2, o3, o4⟩ := h3 hok.1
  have c3 : w.cell? ⟨P, 3, none⟩ = some (.int .i64 p.rd) := h1.cell 3
  have c1 : w.cell? ⟨P, 1, none⟩ = some nx := h1.cell 1
  have z3 : ∀ j, w.frozen? ⟨P, j, none⟩ = false := h1.fz
  have hlt := h1.lt
  have P1 := h1.set 3 (.int .i64 ((p.rd + 1 : Nat) : Int)) (op' := 69) (nx' := nx) (p' := { p with rd := p.rd + 1 }) rfl rfl
  have hPL : P ≠ L := fun e => by have := h1.blk; rw [e, hL.lb] at this; simp at this
  have hPQ : P ≠ Q := fun e => by have := h1.blk; rw [e, hL.qb] at this; simp at this
  have hPv : ∀ k, v.ownBlock = some k → ¬ k = P := fun k hk e => by
    obtain ⟨cs, q⟩ := owns_lt hL.row k hk
    rw [e, h1.blk] at q
    simp at q
  have L1 : LAt P { p with rd := p.rd + 1 } L Q Z v (w.setCell ⟨P, 3, none⟩ (.int .i64 ((p.rd + 1 : Nat) : Int))) := by
    refine ⟨?_, ?_, fun q => ?_, ?_⟩
    · rw [heap_setCell_other w ⟨P, 3, none⟩ L _ (fun e => hPL e.symm)]; exact hL.lb
    · rw [heap_setCell_other w ⟨P, 3, none⟩ Q _ (fun e => hPQ e.symm)]; exact hL.qb
    · have hz := hL.zb q
      rw [heap_setCell_other w ⟨P, 3, none⟩ Z _ (fun e => by simp only at e; rw [e, h1.blk] at hz; simp at hz)]; exact hz
    · exact owns_same hL.row (fun k hk => heap_setCell_other w ⟨P, 3, none⟩ k _ (hPv k hk))
  have O1 := hide ((Only.refl O w).put ⟨P, 3, none⟩ (.int .i64 ((p.rd + 1 : Nat) : Int)) (.inl h4))
  have E1 := hE.only (unhide O1) hB
  have hsz : (w.setCell ⟨P, 3, none⟩ (.int .i64 ((p.rd + 1 : Nat) : Int))).heap.size = w.heap.size := by simp [World.setCell]
  have H4 := hide h4
  have e31 : (⟨P, 3, none⟩ : Addr) ≠ ⟨P, 1, none⟩ := by simp
  have fin : ∀ w2, Nx 69 P (step opA p b) O (w.setCell ⟨P, 3, none⟩ (.int .i64 ((p.rd + 1 : Nat) : Int))) w2 → (step opA p b).2 = 0 → Tk 69 P (step opA p b) O w w2 := by
    intro w2 hn q
    refine ⟨fun _ => ?_, fun q2 => absurd q q2, (unhide O1).trans hn.only (fun _ _ q => q)⟩
    obtain ⟨O', a1, a2⟩ := hn.ok q (step_rd opA p b q (by have := hok.1; omega)).2
    exact ⟨O', a1, fun k hk => by rw [← hsz]; exact a2 k hk⟩
  have FIN := hide fin
  have hS : step opA p b = if p.st ≤ 1 then (if b = 10 then judge opA { ({ p with rd := p.rd + 1 } : Ps) with ln := [] } p.ln else lrow { p with rd := p.rd + 1 } b) else brow { p with rd := p.rd + 1 } b := rfl
  obtain ⟨k1, k2, k3, k4, k5, k6⟩ := hok
  have HRD := hide (show (p.rd : Int) + 1 = ((p.rd + 1 : Nat) : Int) by omega)
  by_cases hst : p.st ≤ 1
  · rw [if_pos hst] at hS
    have HN := hide (next69_line (O := O) P1 L1 E1 ⟨hst, k5 hst, k2, k3, k4⟩ hnx hB h4 h2 o1 o2 o4 b)
    rw [← hS] at HN
    have en : nx = .func (.func 99) #[] #[ptr L, ptr Q] := by rw [hnx]; unfold nxt; rw [if_pos hst]
    rw [en] at c1
    clear h1 h2 h3 h5 P1 L1 E1 hE fin hL o1 o2 o3 o4 hS hnx h4 k5 k6 hst en
    generalize step opA p b = J at *
    go_enter Tryz.func48, Tryz.ntmps48
    go_wp2_with fail
    rw [unhide HRD]
    refine (unhide HN).mono ?_
    rintro e w2 ⟨rfl, hn⟩
    have HNX := hide hn
    obtain ⟨p', nx', hv', hbad, _⟩ := hn.bad
    have HB := hide hbad
    have d0 := hbad.cell 0
    have d1 := hbad.cell 1
    have d2 := hbad.cell 2
    have d3 := hbad.cell 3
    have d4 := hbad.cell 4
    have d5 := hbad.cell 5
    have d6 := hbad.cell 6
    have d7 := hbad.cell 7
    have d8 := hbad.cell 8
    have d9 := hbad.cell 9
    have dz : ∀ j, w2.frozen? ⟨P, j, none⟩ = false := hbad.fz
    have dl := hbad.lt
    simp only [cellsP, List.getElem?_toArray, List.getElem?_cons_zero, List.getElem?_cons_succ] at d0 d1 d2 d3 d4 d5 d6 d7 d8 d9
    clear hn hbad
    by_cases hJ : J.2 = 0
    · have HJ := hide hJ
      have iJ : ((J.2 : Nat) : Int) = 0 := by omega
      clear hJ
      go_wp2
      go_ret
      exact ⟨ret_int (by have := unhide HJ; omega), unhide FIN w2 (unhide HNX) (unhide HJ)⟩
    · have HJ := hide hJ
      have iJ : ¬ ((J.2 : Nat) : Int) = 0 := by omega
      clear hJ
      go_wp2
      go_ret
      have q9 := hide (row10 (unhide HB).blk (.int .i64 4) .nilFunc .nilFunc (.int .i64 0) (S []) (S []) (.int .i64 0) (.slice none 0 0) (.int .i64 0) (S []))
      exact ⟨rfl, ⟨fun q => absurd q (unhide HJ), fun _ => unhide q9, (((((((((((unhide O1).trans (unhide HNX).only (fun _ _ q => q)).put ⟨P, 0, none⟩ _ (.inl (unhide H4))).put ⟨P, 1, none⟩ _ (.inl (unhide H4))).put ⟨P, 2, none⟩ _ (.inl (unhide H4))).put ⟨P, 3, none⟩ _ (.inl (unhide H4))).put ⟨P, 4, none⟩ _ (.inl (unhide H4))).put ⟨P, 5, none⟩ _ (.inl (unhide H4))).put ⟨P, 6, none⟩ _ (.inl (unhide H4))).put ⟨P, 7, none⟩ _ (.inl (unhide H4))).put ⟨P, 8, none⟩ _ (.inl (unhide H4))).put ⟨P, 9, none⟩ _ (.inl (unhide H4))⟩⟩
  · rw [if_neg hst] at hS
    have hst2 : p.st = 2 := by omega
    have HN := hide ((bodya_any P1 L1 hst2 (k6 hst2) k2 b).mono (fun e w' hh => (show e = .returned (.int .i64 (brow { p with rd := p.rd + 1 } b).2) ∧ Nx 69 P (brow { p with rd := p.rd + 1 } b) O (w.setCell ⟨P, 3, none⟩ (.int .i64 ((p.rd + 1 : Nat) : Int))) w' from ⟨hh.1, hh.2.nx (by
      unfold brow
      split
      · right; rfl
      · left; exact hst2) (by rw [hnx, hst2]) h4 h2 o1 o2 (o3 hst2) o4⟩)))
    rw [← hS] at HN
    have en : nx = .func (.func 148) #[] #[ptr L, ptr Z, ptr Q] := by rw [hnx]; unfold nxt; rw [if_neg hst]
    rw [en] at c1
    clear h1 h2 h3 h5 P1 L1 E1 hE fin hL o1 o2 o3 o4 hS hnx h4 k5 k6 hst en hst2
    generalize step opA p b = J at *
    go_enter Tryz.func48, Tryz.ntmps48
    go_wp2_with fail
    rw [unhide HRD]
    refine (unhide HN).mono ?_
    rintro e w2 ⟨rfl, hn⟩
    have HNX := hide hn
    obtain ⟨p', nx', hv', hbad, _⟩ := hn.bad
    have HB := hide hbad
    have d0 := hbad.cell 0
    have d1 := hbad.cell 1
    have d2 := hbad.cell 2
    have d3 := hbad.cell 3
    have d4 := hbad.cell 4
    have d5 := hbad.cell 5
    have d6 := hbad.cell 6
    have d7 := hbad.cell 7
    have d8 := hbad.cell 8
    have d9 := hbad.cell 9
    have dz : ∀ j, w2.frozen? ⟨P, j, none⟩ = false := hbad.fz
    have dl := hbad.lt
    simp only [cellsP, List.getElem?_toArray, List.getElem?_cons_zero, List.getElem?_cons_succ] at d0 d1 d2 d3 d4 d5 d6 d7 d8 d9
    clear hn hbad
    by_cases hJ : J.2 = 0
    · have HJ := hide hJ
      have iJ : ((J.2 : Nat) : Int) = 0 := by omega
      clear hJ
      go_wp2
      go_ret
      exact ⟨ret_int (by have := unhide HJ; omega), unhide FIN w2 (unhide HNX) (unhide HJ)⟩
    · have HJ := hide hJ
      have iJ : ¬ ((J.2 : Nat) : Int) = 0 := by omega
      clear hJ
      go_wp2
      go_ret
      have q9 := hide (row10 (unhide HB).blk (.int .i64 4) .nilFunc .nilFunc (.int .i64 0) (S []) (S []) (.int .i64 0) (.slice none 0 0) (.int .i64 0) (S []))
      exact ⟨rfl, ⟨fun q => absurd q (unhide HJ), fun _ => unhide q9, (((((((((((unhide O1).trans (unhide HNX).only (fun _ _ q => q)).put ⟨P, 0, none⟩ _ (.inl (unhide H4))).put ⟨P, 1, none⟩ _ (.inl (unhide H4))).put ⟨P, 2, none⟩ _ (.inl (unhide H4))).put ⟨P, 3, none⟩ _ (.inl (unhide H4))).put ⟨P, 4, none⟩ _ (.inl (unhide H4))).put ⟨P, 5, none⟩ _ (.inl (unhide H4))).put ⟨P, 6, none⟩ _ (.inl (unhide H4))).put ⟨P, 7, none⟩ _ (.inl (unhide H4))).put ⟨P, 8, none⟩ _ (.inl (unhide H4))).put ⟨P, 9, none⟩ _ (.inl (unhide H4))⟩⟩
end Go.Proofs.YthlacailhfhjnaaGreatDoor
