import Derived.Test.YthlacailhfhjnaaGreatDoorWgb
import Derived.Laws.EntriesVeiled
namespace Go.Proofs.YthlacailhfhjnaaGreatDoor
open Go.RowKit Go.Lib
set_option maxHeartbeats 4000000 in
set_option maxRecDepth 8000 in
theorem judgeFirst47_any {B P : Nat} {p : Ps} {nx hv : Value} {w : World} (h : PAt 47 P p nx hv w) (_hE : Env B w) (l : Bs) (r : Bool) (hl : l.length ≤ 1000000) (hst : p.st = 0) :
    Calls Tryz.prog 114 #[ptr P, S l, .bool r] w fun e w' => e = .returned (.int .i64 (jFst opM p l r).2) ∧ PAt 47 P (jr (jFst opM p l r) p) nx hv w' ∧ Only (fun k => k = P) w w' := by
  have HO := hide (messageLine_any l w (by omega))
  have c2 : w.cell? ⟨P, 2, none⟩ = some (Fn1 47) := h.cell 2
  have hlt := h.lt
  have H := hide h
  clear h _hE
  cases ho : opM l with
  | none =>
    rw [ho] at HO
    have hj : jFst opM p l r = (pov, 50) := by unfold jFst; rw [ho]
    rw [hj]
    clear ho hj
    go_enter Tryz.func114, Tryz.ntmps114
    go_wp2_with fail
    refine (unhide HO).mono ?_
    rintro e w1 ⟨rfl, b1⟩
    have H1 := hide ((unhide H).below b1)
    have O1 := hide (Only.of_below (P := fun k => k = P) b1)
    simp only [opv]
    cases r
    · go_wp2
      go_ret
      exact ⟨rfl, (unhide H1).below ((Below.refl _ _).alloc (Nat.le_refl _) _), (unhide O1).more _⟩
    · go_wp2
      go_ret
      exact ⟨rfl, (unhide H1).below ((Below.refl _ _).alloc (Nat.le_refl _) _), (unhide O1).more _⟩
  | some f =>
    rw [ho] at HO
    have hj : jFst opM p l r = if r then ({ p with fs := f, st := 1 }, 0) else (pov, 50) := by unfold jFst; rw [ho]
    rw [hj]
    obtain ⟨fm, fp, fs⟩ := f
    clear ho hj
    go_enter Tryz.func114, Tryz.ntmps114
    go_wp2_with fail
    refine (unhide HO).mono ?_
    rintro e w1 ⟨rfl, b1⟩
    have H1 := hide ((unhide H).below b1)
    have O1 := hide (Only.of_below (P := fun k => k = P) b1)
    have hlt1 := (unhide H1).lt
    have d4 : w1.cell? ⟨P, 4, none⟩ = some (S p.fs.m) := (unhide H1).cell 4
    have d5 : w1.cell? ⟨P, 5, none⟩ = some (S p.fs.p) := (unhide H1).cell 5
    have d6 : w1.cell? ⟨P, 6, none⟩ = some (.int .i64 p.fs.s) := (unhide H1).cell 6
    have d0 : w1.cell? ⟨P, 0, none⟩ = some (.int .i64 p.st) := (unhide H1).cell 0
    have dz : ∀ j, w1.frozen? ⟨P, j, none⟩ = false := (unhide H1).fz
    simp only [opv]
    cases r
    · go_wp2
      go_ret
      exact ⟨rfl, (unhide H1).below ((Below.refl _ _).alloc (Nat.le_refl _) _), (unhide O1).more _⟩
    · go_wp2
      go_ret
      refine ⟨rfl, ?_, ?_⟩
      · have A1 := (unhide H1).set 4 (S fm) (op' := 47) (nx' := nx) (p' := { p with fs := ⟨fm, p.fs.p, p.fs.s⟩ }) rfl rfl
        have A2 := A1.set 5 (S fp) (op' := 47) (nx' := nx) (p' := { p with fs := ⟨fm, fp, p.fs.s⟩ }) rfl rfl
        have A3 := A2.set 6 (.int .i64 fs) (op' := 47) (nx' := nx) (p' := { p with fs := ⟨fm, fp, fs⟩ }) rfl rfl
        have A4 := A3.set 0 (.int .i64 1) (op' := 47) (nx' := nx) (p' := { p with fs := ⟨fm, fp, fs⟩, st := 1 }) (by simp [cellsP, bdv, hst]) rfl
        exact A4.below ((Below.refl _ _).alloc (Nat.le_refl _) _)
      · exact ((((((unhide O1).put _ _ (.inl rfl)).put _ _ (.inl rfl)).put _ _ (.inl rfl)).put _ _ (.inl rfl)).more _)
set_option maxHeartbeats 4000000 in
set_option maxRecDepth 8000 in
theorem judgeFirst69_any {B P : Nat} {p : Ps} {nx hv : Value} {w : World} (h : PAt 69 P p nx hv w) (hE : Env B w) (l : Bs) (r : Bool) (hl : l.length ≤ 1000000) (hst : p.st = 0) :
    Calls Tryz.prog 114 #[ptr P, S l, .bool r] w fun e w' => e = .returned (.int .i64 (jFst opA p l r).2) ∧ PAt 69 P (jr (jFst opA p l r) p) nx hv w' ∧ Only (fun k => k = P) w w' := by
  have HO := hide (answerLine_any l w hl hE)
  have c2 : w.cell? ⟨P, 2, none⟩ = some (Fn1 69) := h.cell 2
  have hlt := h.lt
  have H := hide h
  clear h hE
  cases ho : opA l with
  | none =>
    rw [ho] at HO
    have hj : jFst opA p l r = (pov, 50) := by unfold jFst; rw [ho]
    rw [hj]
    clear ho hj
    go_enter Tryz.func114, Tryz.ntmps114
    go_wp2_with fail
    refine (unhide HO).mono ?_
    rintro e w1 ⟨rfl, b1⟩
    have H1 := hide ((unhide H).below b1)
    have O1 := hide (Only.of_below (P := fun k => k = P) b1)
    simp only [opv]
    cases r
    · go_wp2
      go_ret
      exact ⟨rfl, (unhide H1).below ((Below.refl _ _).alloc (Nat.le_refl _) _), (unhide O1).more _⟩
    · go_wp2
      go_ret
      exact ⟨rfl, (unhide H1).below ((Below.refl _ _).alloc (Nat.le_refl _) _), (unhide O1).more _⟩
  | some f =>
    rw [ho] at HO
    have hj : jFst opA p l r = if r then ({ p with fs := f, st := 1 }, 0) else (pov, 50) := by unfold jFst; rw [ho]
    rw [hj]
    obtain ⟨fm, fp, fs⟩ := f
    clear ho hj
    go_enter Tryz.func114, Tryz.ntmps114
    go_wp2_with fail
    refine (unhide HO).mono ?_
    rintro e w1 ⟨rfl, b1⟩
    have H1 := hide ((unhide H).below b1)
    have O1 := hide (Only.of_below (P := fun k => k = P) b1)
    have hlt1 := (unhide H1).lt
    have d4 : w1.cell? ⟨P, 4, none⟩ = some (S p.fs.m) := (unhide H1).cell 4
    have d5 : w1.cell? ⟨P, 5, none⟩ = some (S p.fs.p) := (unhide H1).cell 5
    have d6 : w1.cell? ⟨P, 6, none⟩ = some (.int .i64 p.fs.s) := (unhide H1).cell 6
    have d0 : w1.cell? ⟨P, 0, none⟩ = some (.int .i64 p.st) := (unhide H1).cell 0
    have dz : ∀ j, w1.frozen? ⟨P, j, none⟩ = false := (unhide H1).fz
    simp only [opv]
    cases r
    · go_wp2
      go_ret
      exact ⟨rfl, (unhide H1).below ((Below.refl _ _).alloc (Nat.le_refl _) _), (unhide O1).more _⟩
    · go_wp2
      go_ret
      refine ⟨rfl, ?_, ?_⟩
      · have A1 := (unhide H1).set 4 (S fm) (op' := 69) (nx' := nx) (p' := { p with fs := ⟨fm, p.fs.p, p.fs.s⟩ }) rfl rfl
        have A2 := A1.set 5 (S fp) (op' := 69) (nx' := nx) (p' := { p with fs := ⟨fm, fp, p.fs.s⟩ }) rfl rfl
        have A3 := A2.set 6 (.int .i64 fs) (op' := 69) (nx' := nx) (p' := { p with fs := ⟨fm, fp, fs⟩ }) rfl rfl
        have A4 := A3.set 0 (.int .i64 1) (op' := 69) (nx' := nx) (p' := { p with fs := ⟨fm, fp, fs⟩, st := 1 }) (by simp [cellsP, bdv, hst]) rfl
        exact A4.below ((Below.refl _ _).alloc (Nat.le_refl _) _)
      · exact ((((((unhide O1).put _ _ (.inl rfl)).put _ _ (.inl rfl)).put _ _ (.inl rfl)).put _ _ (.inl rfl)).more _)
end Go.Proofs.YthlacailhfhjnaaGreatDoor
namespace Go.Proofs.YthlacailhfhjnaaGreatDoor
open Go.RowKit Go.Lib
set_option maxHeartbeats 4000000 in
set_option maxRecDepth 8000 in
theorem judgeLength_any {op B P : Nat} {p : Ps} {nx hv : Value} {w : World} (h : PAt op P p nx hv w) (hE : Env B w) (l : Bs) (hl : l.length ≤ 1000000) :
    Calls Tryz.prog 136 #[ptr P, S l] w fun e w' => e = .returned (.int .i64 (jLen p l).2) ∧ PAt op P (jr (jLen p l) p) nx hv w' ∧ Only (fun k => k = P) w w' := by
  have c8 : w.cell? ⟨P, 8, none⟩ = some (.int .i64 p.len) := h.cell 8
  have hlt := h.lt
  have H := hide h
  have HN := hide (isNumber_any l w (by omega))
  clear h
  by_cases h1 : p.len = -1
  · have c8' : w.cell? ⟨P, 8, none⟩ = some (.int .i64 (-1)) := by rw [c8, h1]
    by_cases hn : num l = true
    · rw [hn] at HN
      by_cases hv : vl 0 l < 9223372036854775808
      · have HK := hide (atoi_ok l w (by omega) hn hv)
        by_cases h4 : 4000 < vl 0 l
        · have hj : jLen p l = (pov, 53) := by unfold jLen; rw [hn, decide_eq_true h1, if_neg (by simp), if_pos h4]
          rw [hj]
          have i4 : (4000 : Int) < (vl 0 l : Int) := by omega
          clear hj hE hv hn c8 h1
          generalize vl 0 l = V at *
          go_enter Tryz.func136, Tryz.ntmps136
          go_wp2_with (first | (go_at_call 95; refine (unhide HN).mono ?_; rintro e w' ⟨rfl, rfl⟩))
          refine (unhide HK).mono ?_
          rintro e w1 ⟨rfl, b1⟩
          have H1 := hide ((unhide H).below b1)
          have O1 := hide (Only.of_below (P := fun k => k = P) b1)
          clear b1
          go_wp2
          go_ret
          exact ⟨rfl, unhide H1, unhide O1⟩
        · have hj : jLen p l = ({ p with len := vl 0 l }, 0) := by unfold jLen; rw [hn, decide_eq_true h1, if_neg (by simp), if_neg h4]
          rw [hj]
          have i4 : ¬ (4000 : Int) < (vl 0 l : Int) := by omega
          clear hj hE hv hn c8 h1
          generalize vl 0 l = V at *
          go_enter Tryz.func136, Tryz.ntmps136
          go_wp2_with (first | (go_at_call 95; refine (unhide HN).mono ?_; rintro e w' ⟨rfl, rfl⟩))
          refine (unhide HK).mono ?_
          rintro e w1 ⟨rfl, b1⟩
          have H1 := hide ((unhide H).below b1)
          have O1 := hide (Only.of_below (P := fun k => k = P) b1)
          have d8 : w1.cell? ⟨P, 8, none⟩ = some (.int .i64 p.len) := (unhide H1).cell 8
          have dz : ∀ j, w1.frozen? ⟨P, j, none⟩ = false := (unhide H1).fz
          have hlt1 := (unhide H1).lt
          clear b1
          go_wp2
          go_ret
          refine ⟨rfl, ?_, (unhide O1).put _ _ (.inl rfl)⟩
          exact (unhide H1).set 8 (.int .i64 V) (op' := op) (nx' := nx) (p' := { p with len := V }) rfl rfl
      · have HK := hide (atoi_no l w hE (by omega) hn hv)
        have hj : jLen p l = (pov, 53) := by unfold jLen; rw [hn, decide_eq_true h1, if_neg (by simp), if_pos (by omega)]
        rw [hj]
        clear hj hE hv hn c8 h1
        go_enter Tryz.func136, Tryz.ntmps136
        go_wp2_with (first | (go_at_call 95; refine (unhide HN).mono ?_; rintro e w' ⟨rfl, rfl⟩))
        refine (unhide HK).mono ?_
        rintro e w1 ⟨x, ty, pv, rfl, b1⟩
        have H1 := hide ((unhide H).below b1)
        have O1 := hide (Only.of_below (P := fun k => k = P) b1)
        clear b1
        go_wp2
        go_ret
        exact ⟨rfl, unhide H1, unhide O1⟩
    · have hn' : num l = false := by simpa using hn
      rw [hn'] at HN
      have hj : jLen p l = (pov, 52) := by unfold jLen; rw [hn', if_pos (by simp)]
      rw [hj]
      clear hj hE hn hn' c8 h1
      go_enter Tryz.func136, Tryz.ntmps136
      go_wp2_with (first | (go_at_call 95; refine (unhide HN).mono ?_; rintro e w' ⟨rfl, rfl⟩))
      go_ret
      exact ⟨rfl, unhide H, Only.refl _ _⟩
  · have hj : jLen p l = (pov, 52) := by unfold jLen; rw [decide_eq_false h1, if_pos (by simp)]
    rw [hj]
    clear hj hE
    go_enter Tryz.func136, Tryz.ntmps136
    go_wp2
    go_ret
    exact ⟨rfl, unhide H, Only.refl _ _⟩
end Go.Proofs.YthlacailhfhjnaaGreatDoor
namespace Go.Proofs.YthlacailhfhjnaaGreatDoor
open Go.RowKit Go.Lib
/-- What enterBody leaves. -/
structure Ent (op P : Nat) (p' : Ps) (nx hv : Value) (w w' : World) : Prop where
  at_ : ∃ nx', PAt op P p' nx' hv w' ∧ (p'.st ≠ 2 → nx' = nx) ∧ (p'.st = 2 → ∃ L Q Z v, nx' = nxt 2 L Q Z ∧ LAt P p' L Q Z v w' ∧ w.heap.size ≤ L ∧ w.heap.size ≤ Q ∧ w.heap.size ≤ Z ∧ ∀ k, v.ownBlock = some k → w.heap.size ≤ k)
  only : Only (fun k => k = P) w w'
set_option maxHeartbeats 4000000 in
set_option maxRecDepth 8000 in
theorem enterBody_any {op P : Nat} {p : Ps} {nx hv : Value} {w : World} (h : PAt op P p nx hv w) (hst : p.st = 1) (hb : p.bd = []) (hlen : p.len ≤ 4000) :
    Calls Tryz.prog 115 #[ptr P] w fun e w' => e = .returned (.tuple #[]) ∧ Ent op P (jEnd p) nx hv w w' := by
  have c8 : w.cell? ⟨P, 8, none⟩ = some (.int .i64 p.len) := h.cell 8
  have c0 : w.cell? ⟨P, 0, none⟩ = some (.int .i64 p.st) := h.cell 0
  have cz : ∀ j, w.frozen? ⟨P, j, none⟩ = false := h.fz
  have hlt := h.lt
  have H := hide h
  have HB := hide hb
  clear h hb
  by_cases h1 : p.len ≤ 0
  · have hj : jEnd p = { p with st := 3 } := by unfold jEnd; rw [if_pos h1]
    rw [hj]
    go_enter Tryz.func115, Tryz.ntmps115
    go_wp2
    refine bodyPost_ret (v := .tuple #[]) (by simp [results, Tryz.results115, go_sem]) rfl ⟨rfl, ⟨nx, ?_, fun _ => rfl, fun q => by simp at q⟩, (Only.refl _ _).put _ _ (.inl rfl)⟩
    exact (unhide H).set 0 (.int .i64 3) (op' := op) (nx' := nx) (p' := { p with st := 3 }) (by simp [cellsP, bdv, hst, unhide HB]) rfl
  · have hj : jEnd p = { p with st := 2 } := by unfold jEnd; rw [if_neg h1]
    rw [hj]
    obtain ⟨n, hn⟩ : ∃ n : Nat, p.len = (n : Int) := ⟨p.len.toNat, by omega⟩
    have hn4 : n ≤ 4000 := by omega
    have HA := hide ((unhide H).set 0 (.int .i64 2) (op' := op) (nx' := nx) (p' := { p with st := 2 }) (by simp [cellsP, bdv, hst]) rfl)
    have HO := hide ((Only.refl (fun k => k = P) w).put ⟨P, 0, none⟩ (.int .i64 2) (.inl rfl))
    have HR := hide (fun W => rest_any P n W hn4)
    have HN := hide hn
    rw [hn] at c8
    have h1' : ¬ (n : Int) ≤ 0 := by omega
    clear h1 hn
    go_enter Tryz.func115, Tryz.ntmps115
    go_wp2_with fail
    have hsz0 : w.heap.size ≤ (w.setCell ⟨P, 0, none⟩ (.int .i64 2)).heap.size := (unhide HO).size
    generalize w.setCell ⟨P, 0, none⟩ (.int .i64 2) = W1 at *
    refine (unhide HR W1).mono ?_
    rintro e w2 ⟨L, Q, Z, v, rfl, hL, hQ, hZ, hrow, l1, l2, l3, l4, b2⟩
    have HA2 := hide ((unhide HA).below b2)
    have HO2 := hide ((unhide HO).trans (Only.of_below (P := fun k => k = P) b2) (fun _ _ q => q))
    have d1 : w2.cell? ⟨P, 1, none⟩ = some nx := (unhide HA2).cell 1
    have dz : ∀ j, w2.frozen? ⟨P, j, none⟩ = false := (unhide HA2).fz
    have hlt2 := (unhide HA2).lt
    have HL := hide (show LAt P { p with st := 2 } L Q Z v w2 from ⟨hL, hQ, fun _ => by rw [hZ]; simp [unhide HN], by simpa [cur, unhide HB] using hrow⟩)
    have HPL : P ≠ L := fun e => by have := (unhide HA2).blk; rw [e, hL] at this; simp at this
    have HPQ : P ≠ Q := fun e => by have := (unhide HA2).blk; rw [e, hQ] at this; simp at this
    have HPZ : P ≠ Z := fun e => by have := (unhide HA2).blk; rw [e, hZ] at this; simp at this
    have HPv := hide (fun (k : Nat) (hk : v.ownBlock = some k) (e : k = P) => (by
      obtain ⟨cs, q⟩ := owns_lt hrow k hk
      have := (unhide HA2).blk
      rw [← e, q] at this
      simp at this : False))
    have HF := hide (And.intro l1 (And.intro l2 (And.intro l3 l4)))
    clear hL hQ hZ hrow b2 HA HO HR l1 l2 l3 l4
    simp only [nxt]
    go_wp2
    go_end0
    refine ⟨rfl, ⟨nxt 2 L Q Z, ?_, fun q => absurd rfl q, fun _ => ⟨L, Q, Z, v, rfl, ?_, Nat.le_trans hsz0 (unhide HF).1, Nat.le_trans hsz0 (unhide HF).2.1, Nat.le_trans hsz0 (unhide HF).2.2.1, fun k hk => Nat.le_trans hsz0 ((unhide HF).2.2.2 k hk)⟩⟩, (unhide HO2).put _ _ (.inl rfl)⟩
    · exact (unhide HA2).set 1 (nxt 2 L Q Z) (op' := op) (nx' := nxt 2 L Q Z) (p' := { p with st := 2 }) rfl rfl
    · exact (unhide HL).keep (Only.setCell w2 ⟨P, 1, none⟩ _) (fun e => HPL e.symm) (fun e => HPQ e.symm) (fun e => HPZ e.symm) (fun k hk e => unhide HPv k hk e)
end Go.Proofs.YthlacailhfhjnaaGreatDoor
