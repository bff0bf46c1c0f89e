import Derived.Test.YthlacailhfhjnaaGreatDoorZwbd
import Derived.Laws.EntriesVeiled
namespace Go.Proofs.YthlacailhfhjnaaGreatDoor
open Go.RowKit Go.Lib
/-- What enterBody leaves. -/
structure Ent (op P : Nat) (p' : Ps) (nx hv : Value) (w w' : World) : Prop where
  at_ : ∃ nx', PAt op P p' nx' hv w' ∧ (p'.st ≠ 2 → nx' = nx) ∧ (p'.st = 2 → ∃ L Q Z v, nx' = nxt 2 L Q Z ∧ LAt P p' L Q Z v w' ∧ w.heap.size ≤ L ∧ w.heap.size ≤ Q ∧ w.heap.size ≤ Z ∧ ∀ k, v.ownBlock = some k → w.heap.size ≤ k)
  only : Only (fun k => k = P) w w'
set_option maxHeartbeats 4000000 in
set_option maxRecDepth 8000 in
theorem enterBody_any {op P : Nat} {p : Ps} {nx hv : Value} {w : World} (h : PAt op P p nx hv w) (hst : p.st = 1) (hb : p.bd = []) (hlen : p.len ≤ 4000) :
    Calls Tryz.prog 115 #[ptr P] w fun e w' => e = .returned (.tuple #[]) ∧ Ent op P (jEnd p) nx hv w w' := by
  have c8 : w.cell? ⟨P, 8, none⟩ = some (.int .i64 p.len) := h.cell 8
  have c0 : w.cell? ⟨P, 0, none⟩ = some (.int .i64 p.st) := h.cell 0
  have cz : ∀ j, w.frozen? ⟨P, j, none⟩ = false := h.fz
  have hlt := h.lt
  have H := hide h
  have HB := hide hb
  clear h hb
  by_cases h1 : p.len ≤ 0
  · have hj : jEnd p = { p with st := 3 } := by unfold jEnd; rw [if_pos h1]
    rw [hj]
    go_enter Tryz.func115, Tryz.ntmps115
    go_wp2
    refine bodyPost_ret (v := .tuple #[]) (by simp [results, Tryz.results115, go_sem]) rfl ⟨rfl, ⟨nx, ?_, fun _ => rfl, fun q => by simp at q⟩, (Only.refl _ _).put _ _ (.inl rfl)⟩
    exact (unhide H).set 0 (.int .i64 3) (op' := op) (nx' := nx) (p' := { p with st := 3 }) (by simp [cellsP, bdv, hst, unhide HB]) rfl
  · have hj : jEnd p = { p with st := 2 } := by unfold jEnd; rw [if_neg h1]
    rw [hj]
    obtain ⟨n, hn⟩ : ∃ n : Nat, p.len = (n : Int) := ⟨p.len.toNat, by omega⟩
    have hn4 : n ≤ 4000 := by omega
    have HA := hide ((unhide H).set 0 (.int .i64 2) (op' := op) (nx' := nx) (p' := { p with st := 2 }) (by simp [cellsP, bdv, hst]) rfl)
    have HO := hide ((Only.refl (fun k => k = P) w).put ⟨P, 0, none⟩ (.int .i64 2) (.inl rfl))
    have HR := hide (fun W => rest_any P n W hn4)
    have HN := hide hn
    rw [hn] at c8
    have h1' : ¬ (n : Int) ≤ 0 := by omega
    clear h1 hn
    go_enter Tryz.func115, Tryz.ntmps115
    go_wp2_with fail
    have hsz0 : w.heap.size ≤ (w.setCell ⟨P, 0, none⟩ (.int .i64 2)).heap.size := (unhide HO).size
    generalize w.setCell ⟨P, 0, none⟩ (.int .i64 2) = W1 at *
    refine (unhide HR W1).mono ?_
    rintro e w2 ⟨L, Q, Z, v, rfl, hL, hQ, hZ, hrow, l1, l2, l3, l4, b2⟩
    have HA2 := hide ((unhide HA).below b2)
    have HO2 := hide ((unhide HO).trans (Only.of_below (P := fun k => k = P) b2) (fun _ _ q => q))
    have d1 : w2.cell? ⟨P, 1, none⟩ = some nx := (unhide HA2).cell 1
    have dz : ∀ j, w2.frozen? ⟨P, j, none⟩ = false := (unhide HA2).fz
    have hlt2 := (unhide HA2).lt
    have HL := hide (show LAt P { p with st := 2 } L Q Z v w2 from ⟨hL, hQ, fun _ => by rw [hZ]; simp [unhide HN], by simpa [cur, unhide HB] using hrow⟩)
    have HPL : P ≠ L := fun e => by have := (unhide HA2).blk; rw [e, hL] at this; simp at this
    have HPQ : P ≠ Q := fun e => by have := (unhide HA2).blk; rw [e, hQ] at this; simp at this
    have HPZ : P ≠ Z := fun e => by have := (unhide HA2).blk; rw [e, hZ] at this; simp at this
    have HPv := hide (fun (k : Nat) (hk : v.ownBlock = some k) (e : k = P) => (by
      obtain ⟨cs, q⟩ := owns_lt hrow k hk
      have := (unhide HA2).blk
      rw [← e, q] at this
      simp at this : False))
    have HF := hide (And.intro l1 (And.intro l2 (And.intro l3 l4)))
    clear hL hQ hZ hrow b2 HA HO HR l1 l2 l3 l4
    simp only [nxt]
    go_wp2
    go_end0
    refine ⟨rfl, ⟨nxt 2 L Q Z, ?_, fun q => absurd rfl q, fun _ => ⟨L, Q, Z, v, rfl, ?_, Nat.le_trans hsz0 (unhide HF).1, Nat.le_trans hsz0 (unhide HF).2.1, Nat.le_trans hsz0 (unhide HF).2.2.1, fun k hk => Nat.le_trans hsz0 ((unhide HF).2.2.2 k hk)⟩⟩, (unhide HO2).put _ _ (.inl rfl)⟩
    · exact (unhide HA2).set 1 (nxt 2 L Q Z) (op' := op) (nx' := nxt 2 L Q Z) (p' := { p with st := 2 }) rfl rfl
    · exact (unhide HL).keep (Only.setCell w2 ⟨P, 1, none⟩ _) (fun e => HPL e.symm) (fun e => HPQ e.symm) (fun e => HPZ e.symm) (fun k hk e => unhide HPv k hk e)
end Go.Proofs.YthlacailhfhjnaaGreatDoor
