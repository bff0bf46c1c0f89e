import Derived.Test.YthlacailhfhjnaaGreatDoorWca
namespace Go.Proofs.YthlacailhfhjnaaGreatDoor
open Go.RowKit Go.Lib
set_option maxHeartbeats 4000000 in
set_option maxRecDepth 8000 in
theorem judgeFirst47_any {B P : Nat} {p : Ps} {nx hv : Value} {w : World} (h : PAt 47 P p nx hv w) (_hE : Env B w) (l : Bs) (r : Bool) (hl : l.length ≤ 1000000) (hst : p.st = 0) :
    Calls Tryz.prog 114 #[ptr P, S l, .bool r] w fun e w' => e = .returned (.int .i64 (jFst opM p l r).2) ∧ PAt 47 P (jr (jFst opM p l r) p) nx hv w' ∧ Only (fun k => k = P) w w' := by
  have HO := hide (messageLine_any l w (by omega))
  have c2 : w.cell? ⟨P, 2, none⟩ = some (Fn1 47) := h.cell 2
  have hlt := h.lt
  have H := hide h
  clear h _hE
  cases ho : opM l with
  | none =>
    rw [ho] at HO
    have hj : jFst opM p l r = (pov, 50) := by unfold jFst; rw [ho]
    rw [hj]
    clear ho hj
    go_enter Tryz.func114, Tryz.ntmps114
    go_wp2_with fail
    refine (unhide HO).mono ?_
    rintro e w1 ⟨rfl, b1⟩
    have H1 := hide ((unhide H).below b1)
    have O1 := hide (Only.of_below (P := fun k => k = P) b1)
    simp only [opv]
    cases r
    · go_wp2
      go_ret
      exact ⟨rfl, (unhide H1).below ((Below.refl _ _).alloc (Nat.le_refl _) _), (unhide O1).more _⟩
    · go_wp2
      go_ret
      exact ⟨rfl, (unhide H1).below ((Below.refl _ _).alloc (Nat.le_refl _) _), (unhide O1).more _⟩
  | some f =>
    rw [ho] at HO
    have hj : jFst opM p l r = if r then ({ p with fs := f, st := 1 }, 0) else (pov, 50) := by unfold jFst; rw [ho]
    rw [hj]
    obtain ⟨fm, fp, fs⟩ := f
    clear ho hj
    go_enter Tryz.func114, Tryz.ntmps114
    go_wp2_with fail
    refine (unhide HO).mono ?_
    rintro e w1 ⟨rfl, b1⟩
    have H1 := hide ((unhide H).below b1)
    have O1 := hide (Only.of_below (P := fun k => k = P) b1)
    have hlt1 := (unhide H1).lt
    have d4 : w1.cell? ⟨P, 4, none⟩ = some (S p.fs.m) := (unhide H1).cell 4
    have d5 : w1.cell? ⟨P, 5, none⟩ = some (S p.fs.p) := (unhide H1).cell 5
    have d6 : w1.cell? ⟨P, 6, none⟩ = some (.int .i64 p.fs.s) := (unhide H1).cell 6
    have d0 : w1.cell? ⟨P, 0, none⟩ = some (.int .i64 p.st) := (unhide H1).cell 0
    have dz : ∀ j, w1.frozen? ⟨P, j, none⟩ = false := (unhide H1).fz
    simp only [opv]
    cases r
    · go_wp2
      go_ret
      exact ⟨rfl, (unhide H1).below ((Below.refl _ _).alloc (Nat.le_refl _) _), (unhide O1).more _⟩
    · go_wp2
      go_ret
      refine ⟨rfl, ?_, ?_⟩
      · have A1 := (unhide H1).set 4 (S fm) (op' := 47) (nx' := nx) (p' := { p with fs := ⟨fm, p.fs.p, p.fs.s⟩ }) rfl rfl
        have A2 := A1.set 5 (S fp) (op' := 47) (nx' := nx) (p' := { p with fs := ⟨fm, fp, p.fs.s⟩ }) rfl rfl
        have A3 := A2.set 6 (.int .i64 fs) (op' := 47) (nx' := nx) (p' := { p with fs := ⟨fm, fp, fs⟩ }) rfl rfl
        have A4 := A3.set 0 (.int .i64 1) (op' := 47) (nx' := nx) (p' := { p with fs := ⟨fm, fp, fs⟩, st := 1 }) (by simp [cellsP, bdv, hst]) rfl
        exact A4.below ((Below.refl _ _).alloc (Nat.le_refl _) _)
      · exact ((((((unhide O1).put _ _ (.inl rfl)).put _ _ (.inl rfl)).put _ _ (.inl rfl)).put _ _ (.inl rfl)).more _)
set_option maxHeartbeats 4000000 in
set_option maxRecDepth 8000 in
theorem judgeFirst69_any {B P : Nat} {p : Ps} {nx hv : Value} {w : World} (h : PAt 69 P p nx hv w) (hE : Env B w) (l : Bs) (r : Bool) (hl : l.length ≤ 1000000) (hst : p.st = 0) :
    Calls Tryz.prog 114 #[ptr P, S l, .bool r] w fun e w' => e = .returned (.int .i64 (jFst opA p l r).2) ∧ PAt 69 P (jr (jFst opA p l r) p) nx hv w' ∧ Only (fun k => k = P) w w' := by
  have HO := hide (answerLine_any l w hl hE)
  have c2 : w.cell? ⟨P, 2, none⟩ = some (Fn1 69) := h.cell 2
  have hlt := h.lt
  have H := hide h
  clear h hE
  cases ho : opA l with
  | none =>
    rw [ho] at HO
    have hj : jFst opA p l r = (pov, 50) := by unfold jFst; rw [ho]
    rw [hj]
    clear ho hj
    go_enter Tryz.func114, Tryz.ntmps114
    go_wp2_with fail
    refine (unhide HO).mono ?_
    rintro e w1 ⟨rfl, b1⟩
    have H1 := hide ((unhide H).below b1)
    have O1 := hide (Only.of_below (P := fun k => k = P) b1)
    simp only [opv]
    cases r
    · go_wp2
      go_ret
      exact ⟨rfl, (unhide H1).below ((Below.refl _ _).alloc (Nat.le_refl _) _), (unhide O1).more _⟩
    · go_wp2
      go_ret
      exact ⟨rfl, (unhide H1).below ((Below.refl _ _).alloc (Nat.le_refl _) _), (unhide O1).more _⟩
  | some f =>
    rw [ho] at HO
    have hj : jFst opA p l r = if r then ({ p with fs := f, st := 1 }, 0) else (pov, 50) := by unfold jFst; rw [ho]
    rw [hj]
    obtain ⟨fm, fp, fs⟩ := f
    clear ho hj
    go_enter Tryz.func114, Tryz.ntmps114
    go_wp2_with fail
    refine (unhide HO).mono ?_
    rintro e w1 ⟨rfl, b1⟩
    have H1 := hide ((unhide H).below b1)
    have O1 := hide (Only.of_below (P := fun k => k = P) b1)
    have hlt1 := (unhide H1).lt
    have d4 : w1.cell? ⟨P, 4, none⟩ = some (S p.fs.m) := (unhide H1).cell 4
    have d5 : w1.cell? ⟨P, 5, none⟩ = some (S p.fs.p) := (unhide H1).cell 5
    have d6 : w1.cell? ⟨P, 6, none⟩ = some (.int .i64 p.fs.s) := (unhide H1).cell 6
    have d0 : w1.cell? ⟨P, 0, none⟩ = some (.int .i64 p.st) := (unhide H1).cell 0
    have dz : ∀ j, w1.frozen? ⟨P, j, none⟩ = false := (unhide H1).fz
    simp only [opv]
    cases r
    · go_wp2
      go_ret
      exact ⟨rfl, (unhide H1).below ((Below.refl _ _).alloc (Nat.le_refl _) _), (unhide O1).more _⟩
    · go_wp2
      go_ret
      refine ⟨rfl, ?_, ?_⟩
      · have A1 := (unhide H1).set 4 (S fm) (op' := 69) (nx' := nx) (p' := { p with fs := ⟨fm, p.fs.p, p.fs.s⟩ }) rfl rfl
        have A2 := A1.set 5 (S fp) (op' := 69) (nx' := nx) (p' := { p with fs := ⟨fm, fp, p.fs.s⟩ }) rfl rfl
        have A3 := A2.set 6 (.int .i64 fs) (op' := 69) (nx' := nx) (p' := { p with fs := ⟨fm, fp, fs⟩ }) rfl rfl
        have A4 := A3.set 0 (.int .i64 1) (op' := 69) (nx' := nx) (p' := { p with fs := ⟨fm, fp, fs⟩, st := 1 }) (by simp [cellsP, bdv, hst]) rfl
        exact A4.below ((Below.refl _ _).alloc (Nat.le_refl _) _)
      · exact ((((((unhide O1).put _ _ (.inl rfl)).put _ _ (.inl rfl)).put _ _ (.inl rfl)).put _ _ (.inl rfl)).more _)
end Go.Proofs.YthlacailhfhjnaaGreatDoor
