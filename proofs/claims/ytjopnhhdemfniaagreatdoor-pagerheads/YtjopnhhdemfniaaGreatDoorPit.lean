import Derived.Test.YtjopnhhdemfniaaGreatDoorPis
import Derived.Test.YtjopnhhdemfniaaGreatDoorZpic
namespace Go.Proofs.YtjopnhhdemfniaaGreatDoor
open Go.RowKit
set_option maxHeartbeats 8000000
set_option maxRecDepth 8000
theorem dk_ok {a b c : Bs} {k : Int} (ha : a.length = 512) (hb : b.length = 512) (hc : c.length = 512) : Ok (Dk a b c k) := by
  refine ⟨fun i j h1 h2 => absurd h2 (Nat.not_lt_zero _), fun x hx => (nomatch hx), fun x hx => ?_, ⟨by show 8 ≤ 8; omega, by show 8 ≤ 4096; omega⟩, ⟨by show (0 : Int) ≤ 0; omega, by show (0 : Int) ≤ 9223372036854775807; omega⟩⟩
  have hx' : x ∈ [a, b, c, zs, zs, zs, zs, zs] := hx
  have hz := zs_len
  simp only [List.mem_cons, List.not_mem_nil, or_false] at hx'
  rcases hx' with rfl | rfl | rfl | rfl | rfl | rfl | rfl | rfl <;> assumption
theorem pgs_one {W : World} {g : Nat} (h : W.heap[g]? = some (.cells #[I 1, I 2, I 0, .slice none 0 0, S [97]] 24 (0, 0))) : Pgs W (some ⟨g, 0, none⟩) 1 [pgA] := by
  refine ⟨rfl, fun _ => ⟨g, 0, rfl, fun j hj => ?_⟩⟩
  have hj0 : j = 0 := by omega
  subst hj0
  have := fun j => cell_of_row W g j _ 24 (0, 0) h
  exact ⟨none, 0, this 0, this 1, this 2, this 3, this 4, Ins.nil _ _⟩
def dA : Ds := Dk zs zs zs 0
def dB : Ds := Dk zs (hA (nte 1)).blk zs 3
def dC : Ds := Dk (hB (nte 2)).blk (hA (nte 1)).blk (pgA.born 2).blk (3 + 1 + 1 + 1 + 1)
def qA : Pr := prA (nte 1)
def qB : Pr := prB (nte 2)
theorem okB : Ok dB := dk_ok zs_len (Hd.blk_len (Hd.may_note (hA_may (nte_len 1)))) zs_len
variable {P D : Nat} {vw vl vu : Value} {W : World}
theorem aw_new (w : World) : Calls Tryz.prog 33 #[I 8] w fun e w' => ∃ D V, e = .returned (.tuple #[ptr D, I 0]) ∧ DAt D dA (.slice none 0 0) V w' ∧ (∀ k, Of D (.slice none 0 0) V k → w.heap.size ≤ k) ∧ Below w.heap.size w w' := by
  refine (new_any 8 w ⟨by omega, by omega⟩).mono ?_
  rintro e w' (⟨q, _⟩ | ⟨_, D, V, h1, h2, h3, h4⟩)
  · exact absurd q (by decide)
  · exact ⟨D, V, h1, h2, h3, h4⟩
theorem aw_fmt (q : DAt D dA vw vl W) : Calls Tryz.prog 35 #[ptr D, S (nte 1)] W fun e w' => e = .returned (I 0) ∧ DTo D vw vl dB W w' := by
  have h := format_any q (dk_ok zs_len zs_len zs_len) ⟨by show (0 : Int) ≤ 0; omega, by show (0 : Int) ≤ 99999999999999999; omega⟩ (nte 1)
  rw [show fmt dA (nte 1) = (0, dB) from fmt_new (nte_len 1)] at h
  exact h
theorem aw_mnt (q : DAt D dB vw vl W) : Calls Tryz.prog 39 #[ptr D] W fun e w' => ∃ P vu, e = .returned (.tuple #[ptr P, I 0]) ∧ PD P D dB qA vw vl vu w' ∧ W.heap.size ≤ P ∧ (∀ k, vu.ownBlock = some k → W.heap.size ≤ k) ∧ Below W.heap.size W w' := by
  have e : hct dB = (hA (nte 1), true) := mnt_new (nte_len 1)
  have h := mount0_any q okB rfl (by rw [e]) (by rw [e]; rfl)
  rw [e] at h
  exact h
theorem aw_nxt (q : PD P D dB qA vw vl vu W) : Calls Tryz.prog 48 #[ptr P, I 2] W fun e w' => ∃ V, e = .returned (.tuple #[V, I 0]) ∧ InsOut [2, 3] W V w' ∧ PD P D dB qA vw vl vu w' ∧ Only (fun k => k = P) W w' := by
  have h := next_any q 2 (by omega)
  rw [show nxt dB qA 2 = ([2, 3], 0) from nxt_new _ _ _ _] at h
  exact h
theorem aw_com (q : PD P D dB qA vw vl vu W) (g : Nat) (hst : ∀ W', Only (POf P D vw vl vu) W W' → W'.heap[g]? = some (.cells #[I 1, I 2, I 0, .slice none 0 0, S [97]] 24 (0, 0))) : Calls Tryz.prog 51 #[ptr P, .slice (some ⟨g, 0, none⟩) 1 1, I 2, S (nte 2), .slice none 0 0] W fun e w' => e = .returned (I 0) ∧ PTo P D dC qB vw vl vu W w' := by
  have hn2 := nte_len 2
  have h := commit_any q (prA_ok (nte_len 1)) (some ⟨g, 0, none⟩) none 1 1 0 0 [pgA] 2 (nte 2) [] (fun W' o => ⟨pgs_one (hst W' o), Ins.nil _ _⟩) (fun x hx => by simp only [List.mem_cons, List.not_mem_nil, or_false] at hx; subst hx; exact ⟨by show 0 ≤ _; omega, by show 1 ≤ _; omega⟩) (fun x hx => by simp only [List.mem_cons, List.not_mem_nil, or_false] at hx; subst hx; exact fun z hz => nomatch hz) (fun z hz => nomatch hz) (by omega) (by omega) ⟨by show (0 : Int) ≤ 3; omega, by show (3 : Int) ≤ 99999999999999; omega⟩ (by omega) (by omega)
  rw [show cmr dB qA [pgA] 2 (nte 2) [] = (0, dC, qB) from cmr_new hn2] at h
  exact h
theorem aw_rd2 (q : PD P D dC qB vw vl vu W) : Calls Tryz.prog 53 #[ptr P, I 2] W fun e w' => ∃ q1 cap, e = .returned (.tuple #[.agg #[I 1, I 2, I 2, .slice q1 0 cap, S [97]], I 0]) ∧ PD P D dC qB vw vl vu w' ∧ Only (fun k => k = P) W w' := by
  have h := readP_any q 2 (by omega)
  rw [show rdp dC qB 2 = (pgA.born 2, 0) from rdp_two] at h
  refine h.mono ?_
  rintro e w' ⟨⟨q1, cap, h1, _, _, h2⟩, h3⟩
  exact ⟨q1, cap, h1, h3, h2⟩
theorem aw_rd3 (q : PD P D dC qB vw vl vu W) : Calls Tryz.prog 53 #[ptr P, I 3] W fun e w' => ∃ q1 cap, e = .returned (.tuple #[.agg #[I 0, I 0, I 0, .slice q1 0 cap, S []], I 93]) ∧ PD P D dC qB vw vl vu w' ∧ Only (fun k => k = P) W w' := by
  have h := readP_any q 3 (by omega)
  rw [show rdp dC qB 3 = (noPg, 93) from rdp_three] at h
  refine h.mono ?_
  rintro e w' ⟨⟨q1, cap, h1, _, _, h2⟩, h3⟩
  exact ⟨q1, cap, h1, h3, h2⟩
theorem aw_root (q : PD P D dC qB vw vl vu W) : Calls Tryz.prog 54 #[ptr P] W fun e w' => e = .returned (I 2) ∧ w' = W := root_any q
theorem aw_free (q : PD P D dC qB vw vl vu W) : Calls Tryz.prog 49 #[ptr P] W fun e w' => e = .returned (I 5) ∧ w' = W := by
  have h := free_any q
  rw [show (sel qB.use frb).length = 5 from rfl] at h
  exact h
theorem aw_gen (q : PD P D dC qB vw vl vu W) : Calls Tryz.prog 40 #[ptr P] W fun e w' => e = .returned (I 2) ∧ w' = W := generation_any q
theorem aw_note (q : PD P D dC qB vw vl vu W) : Calls Tryz.prog 55 #[ptr P] W fun e w' => e = .returned (S (nte 2)) ∧ Below W.heap.size W w' :=
  note_any q (by show (nte 2).length ≤ 1000; rw [nte_len]; omega)
end Go.Proofs.YtjopnhhdemfniaaGreatDoor
