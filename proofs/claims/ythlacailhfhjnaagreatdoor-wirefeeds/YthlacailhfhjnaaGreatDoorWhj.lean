import Derived.Test.YthlacailhfhjnaaGreatDoorWhi
namespace Go.Proofs.YthlacailhfhjnaaGreatDoor
open Go.RowKit Go.Lib
def opf (a : Bool) : Bs → Option Fst := if a then opA else opM
theorem lnv_form (s : Bs) (k : Nat) (t : Bs) (ht : t = s.drop k) : (1001 < (hd 10 t).length ∧ lnv s k = .tuple #[S [], .int .i64 0, .bool false, .bool true]) ∨ (¬ 1001 < (hd 10 t).length ∧ (hd 10 t).length < t.length ∧ lnv s k = .tuple #[S (cutr (hd 10 t)), .int .i64 ((k + (hd 10 t).length + 1 : Nat) : Int), .bool (ret (hd 10 t)), .bool false]) ∨ (¬ 1001 < (hd 10 t).length ∧ ¬ (hd 10 t).length < t.length ∧ lnv s k = .tuple #[S [], .int .i64 0, .bool false, .bool false]) := by
  subst ht
  unfold lnv
  by_cases h1 : 1001 < (hd 10 (s.drop k)).length
  · exact .inl ⟨h1, by rw [if_pos h1]⟩
  · by_cases h2 : (hd 10 (s.drop k)).length < (s.drop k).length
    · exact .inr (.inl ⟨h1, h2, by rw [if_neg h1, if_pos h2]⟩)
    · exact .inr (.inr ⟨h1, h2, by rw [if_neg h1, if_neg h2]⟩)
theorem cutr_le (e : Bs) : (cutr e).length ≤ e.length := by
  unfold cutr
  split
  · simp
  · exact Nat.le_refl _
theorem judge0 (op : Bs → Option Fst) (n : Nat) (e : Bs) : judge op { p0 with rd := p0.rd + n + 1, ln := [] } e = (match op (cutr e) with | none => (pov, 50) | some f => if ret e then (⟨1, n + 1, [], f, [], -1, []⟩, 0) else (pov, 50)) := by
  unfold judge
  rw [if_pos (by rfl)]
  unfold jFst
  cases op (cutr e) with
  | none => rfl
  | some f =>
    cases ret e with
    | false => rfl
    | true => simp [p0]
theorem judge1 (op : Bs → Option Fst) (k n : Nat) (f : Fst) (hs : List Fl) (len : Int) (e : Bs) : judge op { (⟨1, k, [], f, hs, len, []⟩ : Ps) with rd := k + n + 1, ln := [] } e = if ret e && cutr e == [] then (jEnd ⟨1, k + n + 1, [], f, hs, len, []⟩, 0) else jHdr ⟨1, k + n + 1, [], f, hs, len, []⟩ (cutr e) (ret e) := by
  unfold judge
  rw [if_neg (by show ¬ (1 : Nat) = 0; omega)]
/-- The first line, told by the machine. -/
theorem sc_first (op : Bs → Option Fst) (s : Bs) : sc op p0 s = if 1001 < (hd 10 s).length then some (.error 53) else if (hd 10 s).length < s.length then (match op (cutr (hd 10 s)) with | none => some (.error 50) | some f => if ret (hd 10 s) then sc op ⟨1, (hd 10 s).length + 1, [], f, [], -1, []⟩ (tl 10 s) else some (.error 50)) else none := by
  rw [sc_line op p0 s (by decide) rfl rfl _ (judge0 op _ _).symm]
  split
  · rfl
  · split
    · cases op (cutr (hd 10 s)) with
      | none => rfl
      | some f =>
        cases ret (hd 10 s) with
        | false => rfl
        | true => rfl
    · rfl
/-- A further line. -/
theorem sc_next (op : Bs → Option Fst) (k : Nat) (f : Fst) (hs : List Fl) (len : Int) (t : Bs) (J : Ps × Nat) (hJ : J = jHdr ⟨1, k + (hd 10 t).length + 1, [], f, hs, len, []⟩ (cutr (hd 10 t)) (ret (hd 10 t))) : sc op ⟨1, k, [], f, hs, len, []⟩ t = if 1001 < (hd 10 t).length then some (.error 53) else if (hd 10 t).length < t.length then
    (if ret (hd 10 t) && cutr (hd 10 t) == [] then (if len ≤ 0 then some (.ok (⟨3, k + (hd 10 t).length + 1, [], f, hs, len, []⟩, tl 10 t)) else if ((tl 10 t).length : Int) < len then none else some (.ok (⟨3, k + (hd 10 t).length + 1 + len.toNat, [], f, hs, len, (tl 10 t).take len.toNat⟩, (tl 10 t).drop len.toNat)))
    else if J.2 ≠ 0 then some (.error J.2)
    else sc op J.1 (tl 10 t)) else none := by
  rw [sc_line op ⟨1, k, [], f, hs, len, []⟩ t (by show 1 ≤ 1; omega) rfl rfl _ (judge1 op k _ f hs len _).symm, ← hJ]
  split
  · rfl
  · split
    · by_cases hc : (ret (hd 10 t) && cutr (hd 10 t) == []) = true
      · rw [if_pos hc]
        rw [if_pos hc]
        unfold jEnd
        by_cases h : len ≤ 0
        · rw [if_pos h]
          rw [if_pos h]
          rfl
        · rw [if_neg h]
          rw [if_neg h]
          rfl
      · rw [if_neg hc]
        rw [if_neg hc]
        split
        · rfl
        · rename_i h2
          have h2' : J.2 = 0 := by simpa using h2
          rw [hJ] at h2'
          have := (jHdr_rd _ _ _ h2').2.1
          rw [← hJ] at this
          unfold nxl
          rw [if_neg (by rw [this]; show ¬ (1 : Nat) = 3; omega), if_neg (by rw [this]; show ¬ (1 : Nat) = 2; omega)]
    · rfl
end Go.Proofs.YthlacailhfhjnaaGreatDoor
