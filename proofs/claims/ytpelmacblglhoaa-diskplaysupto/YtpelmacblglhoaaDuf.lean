import Derived.Test.YtpelmacblglhoaaDue
import Derived.Test.YtpelmacblglhoaaZzbb
import Derived.Test.YtpelmacblglhoaaDst
namespace Go.Proofs.Ytpelmacblglhoaa
open Go.RowKit
set_option maxHeartbeats 4000000
set_option maxRecDepth 8000
theorem mod_in (set k : Nat) : (((set / 2 ^ k : Nat) : Int).tmod 2 = 1) ↔ inSet set k = true := by
  have := tmod_two set k
  rwa [show ((set : Int) / 2 ^ k) = ((set / 2 ^ k : Nat) : Int) by push_cast; rfl] at this
theorem half_next (set k : Nat) : ((set / 2 ^ k : Nat) : Int).tdiv 2 = ((set / 2 ^ (k + 1) : Nat) : Int) := by
  rw [Int.tdiv_eq_ediv_of_nonneg (Int.natCast_nonneg _), Nat.pow_succ, ← Nat.div_div_eq_div_mul]
  omega
theorem kept_any (last now : Bs) (set : Nat) (w : World) (h1 : last.length = 512) (h2 : now.length = 512) (hset : set < 256) :
    Calls Try.prog 71 #[S last, S now, I set] w fun e w' => e = .returned (S (tornv last now set)) ∧ w' = w := by
  have g1 : ((last.length : Nat) : Int) = 512 := by omega
  have g2 : ((now.length : Nat) : Int) = 512 := by omega
  go_enter Try.func71, Try.ntmps71
  go_wp2
  go_loopw [2, 7, 8] (fun z o i wr => ∃ k : Nat, k ≤ 8 ∧ i = .int .i64 k ∧ z = .int .i64 ((set / 2 ^ k : Nat) : Int) ∧ o = S (tornK last now set k) ∧ wr = w) (fun _ _ i _ => 8 - (Go.RowKit.intOf i).toNat)
  case atStart => exact ⟨0, by omega, rfl, by simp, rfl, rfl⟩
  case round =>
    obtain ⟨k, hk, rfl, rfl, rfl, rfl⟩ := hrel
    by_cases hlt : k < 8
    · have hlt' : (k : Int) < 8 := by omega
      have ht0 := tornK_next last now set k
      have hT := tornK_len last now set k h1 h2 hk
      have hA := sect_len k last h1 hlt
      have hB := sect_len k now h2 hlt
      have l1 := slice_sect last k h1 hlt
      have l2 := slice_sect now k h2 hlt
      have ht := mod_in set k
      have hh := half_next set k
      have hle : set / 2 ^ k ≤ set := Nat.div_le_self _ _
      have hle2 : set / 2 ^ (k + 1) ≤ set := Nat.div_le_self _ _
      generalize set / 2 ^ k = z at *
      generalize hz2 : set / 2 ^ (k + 1) = z2 at *
      have HZ := hide hz2
      clear hz2
      by_cases hc : inSet set k = true
      · have hc' := ht.2 hc
        rw [if_pos hc] at ht0
        have HT := hide ht0
        clear ht ht0
        generalize tornK last now set k = T at *
        generalize sect k now = B at *
        have hnb : ¬ 9223372036854775807 < T.length + B.length := by omega
        have hnb2 : ¬ (9223372036854775807 : Int) < (T.length : Int) + (B.length : Int) := by omega
        go_wp2_with (refine wp_strsl rfl (.tmp 17) (.tmp 19) (.tmp 22) rfl _ _ _ _ rfl rfl rfl (l2 _) ?_)
        go_round
        case measure => simp [Go.RowKit.intOf]; omega
        case rel =>
          refine ⟨k + 1, by omega, by simp, by rw [unhide HZ], ?_, by first | trivial | rfl⟩
          rw [unhide HT, ba_append]
      · have hc' : ((z : Nat) : Int).tmod 2 = 0 := by
          have hc0 : ¬ ((z : Nat) : Int).tmod 2 = 1 := fun q => hc (ht.1 q)
          rw [Int.tmod_eq_emod_of_nonneg (Int.natCast_nonneg _)] at hc0 ⊢
          omega
        rw [if_neg hc] at ht0
        have HT := hide ht0
        clear ht ht0
        generalize tornK last now set k = T at *
        generalize sect k last = B at *
        have hnb : ¬ 9223372036854775807 < T.length + B.length := by omega
        have hnb2 : ¬ (9223372036854775807 : Int) < (T.length : Int) + (B.length : Int) := by omega
        go_wp2_with (refine wp_strsl rfl (.tmp 26) (.tmp 28) (.tmp 31) rfl _ _ _ _ rfl rfl rfl (l1 _) ?_)
        go_round
        case measure => simp [Go.RowKit.intOf]; omega
        case rel =>
          refine ⟨k + 1, by omega, by simp, by rw [unhide HZ], ?_, by first | trivial | rfl⟩
          rw [unhide HT, ba_append]
    · have hlt' : ¬ (k : Int) < 8 := by omega
      obtain rfl : k = 8 := by omega
      go_wp2
      go_ret
      exact ⟨rfl, rfl⟩
/-- Which are named so far. -/
theorem stps_named (n : Nat) (l : List Kp) (k : Nat) (hk : k ≤ l.length) (st : St) (h : stps (List.replicate n none) (l.take k) = some st) (m : Nat) : (st.getD m none).isSome = true ↔ m < n ∧ ∃ j, j < k ∧ (l.getD j (0, 0)).1 = (m : Int) := by
  induction k generalizing st with
  | zero =>
    simp [stps] at h
    subst h
    constructor
    · intro q
      exfalso
      by_cases hm : m < n
      · simp [hm] at q
      · simp [hm] at q
    · rintro ⟨_, j, hj, _⟩
      omega
  | succ k ih =>
    rw [stps_next _ _ _ (by omega)] at h
    cases hs : stps (List.replicate n none) (l.take k) with
    | none => rw [hs] at h; cases h
    | some s0 =>
      rw [hs] at h
      have i0 := ih (by omega) s0 hs
      have hlen : s0.length = n := by
        have : ∀ (l : List Kp) (a b : St), stps a l = some b → b.length = a.length := by
          intro l
          induction l with
          | nil => intro a b h; simp [stps] at h; rw [h]
          | cons x l ih2 =>
            intro a b h
            simp only [stps] at h
            cases hx : stp a x with
            | none => rw [hx] at h; cases h
            | some s => rw [hx] at h; rw [ih2 _ _ h, stp_len hx]
        simpa using this _ _ _ hs
      generalize hx : l.getD k (0, 0) = x at h
      simp only [stp] at h
      split at h
      · cases h
      split at h
      · cases h
      split at h
      · cases h
      split at h
      · cases h
      rename_i g1 g2 g3 g4
      cases h
      rw [set_getD]
      by_cases e : m = x.1.toNat
      · rw [if_pos ⟨e, by omega⟩]
        refine ⟨fun _ => ⟨by omega, k, by omega, by rw [hx]; omega⟩, fun _ => rfl⟩
      · rw [if_neg (fun q => e q.1), i0]
        constructor
        · rintro ⟨h1, j, h2, h3⟩
          exact ⟨h1, j, by omega, h3⟩
        · rintro ⟨h1, j, h2, h3⟩
          refine ⟨h1, j, ?_, h3⟩
          rcases Nat.lt_or_eq_of_le (Nat.le_of_lt_succ h2) with q | q
          · exact q
          · subst q; rw [hx] at h3; omega
theorem stps_len (n : Nat) (l : List Kp) (st : St) (h : stps (List.replicate n none) l = some st) : st.length = n := by
  have : ∀ (l : List Kp) (a b : St), stps a l = some b → b.length = a.length := by
    intro l
    induction l with
    | nil => intro a b h; simp [stps] at h; rw [h]
    | cons x l ih2 =>
      intro a b h
      simp only [stps] at h
      cases hx : stp a x with
      | none => rw [hx] at h; cases h
      | some s => rw [hx] at h; rw [ih2 _ _ h, stp_len hx]
  simpa using this _ _ _ h
/-- What a crash makes of each block. -/
theorem crs_at (last : List Bs) (ws : List Wr) (st : St) (hs : Srt ws) (hl : ∀ x ∈ ws, x.1 < last.length) (k : Nat) (hk : k ≤ ws.length) :
    (∀ i, i < k → (crs last ws st k).getD (ws.getD i (0, [])).1 [] = tornv (last.getD (ws.getD i (0, [])).1 []) (ws.getD i (0, [])).2 ((st.getD i none).getD 0)) ∧
    (∀ m, (∀ i, i < k → (ws.getD i (0, [])).1 ≠ m) → (crs last ws st k).getD m [] = last.getD m []) := by
  induction k with
  | zero => exact ⟨fun i hi => by omega, fun m _ => rfl⟩
  | succ k ih =>
    obtain ⟨i1, i2⟩ := ih (by omega)
    have hb := hl _ (mem_getD (z := (0, [])) (show k < ws.length by omega))
    have e0 : (crs last ws st k).getD (ws.getD k (0, [])).1 [] = last.getD (ws.getD k (0, [])).1 [] := i2 _ (fun i hi q => by have := hs i k hi (by omega); omega)
    simp only [crs]
    constructor
    · intro i hi
      rw [set_getD, crs_len]
      by_cases e : i = k
      · subst e
        rw [if_pos ⟨rfl, hb⟩, e0]
      · have := hs i k (by omega) (by omega)
        rw [if_neg (fun q => by omega)]
        exact i1 i (by omega)
    · intro m hm
      rw [set_getD]
      rw [if_neg (fun q => hm k (by omega) q.1.symm)]
      exact i2 m (fun i hi => hm i (by omega))
theorem crs_zero (last : List Bs) (ws : List Wr) (n : Nat) (hs : Srt ws) (hl : ∀ x ∈ ws, x.1 < last.length) (hz : ∀ x ∈ last, x.length = 512) : crs last ws (List.replicate n none) ws.length = last := by
  obtain ⟨i1, i2⟩ := crs_at last ws (List.replicate n none) hs hl ws.length (Nat.le_refl _)
  apply list_ext [] (crs_len _ _ _ _)
  intro m hm
  rw [crs_len] at hm
  by_cases h : ∃ i, i < ws.length ∧ (ws.getD i (0, [])).1 = m
  · obtain ⟨i, h1, rfl⟩ := h
    rw [i1 i h1]
    have : ((List.replicate n (none : Option Nat)).getD i none).getD 0 = 0 := by
      by_cases hi : i < n <;> simp [hi]
    rw [this, torn_none _ _ (hz _ (mem_getD hm))]
  · exact i2 m (fun i hi q => h ⟨i, hi, q⟩)
theorem tornv_again (a b : Bs) (s : Nat) (h : a.length = 512) : tornv (tornv a b 0) b s = tornv a b s := by rw [torn_none a b h]
/-- One keep more. -/
theorem crs_step (last : List Bs) (ws : List Wr) (st : St) (i s : Nat) (hs : Srt ws) (hl : ∀ x ∈ ws, x.1 < last.length) (hz : ∀ x ∈ last, x.length = 512) (hi : i < ws.length) (hn : st.length = ws.length) (h0 : st.getD i none = none) :
    (crs last ws st ws.length).set (ws.getD i (0, [])).1 (tornv ((crs last ws st ws.length).getD (ws.getD i (0, [])).1 []) (ws.getD i (0, [])).2 s) = crs last ws (st.set i (some s)) ws.length := by
  obtain ⟨i1, i2⟩ := crs_at last ws st hs hl ws.length (Nat.le_refl _)
  obtain ⟨j1, j2⟩ := crs_at last ws (st.set i (some s)) hs hl ws.length (Nat.le_refl _)
  have hb := hl _ (mem_getD (z := (0, [])) hi)
  apply list_ext [] (by rw [List.length_set, crs_len, crs_len])
  intro m hm
  rw [List.length_set, crs_len] at hm
  rw [set_getD, crs_len]
  by_cases h : ∃ j, j < ws.length ∧ (ws.getD j (0, [])).1 = m
  · obtain ⟨j, h1, rfl⟩ := h
    rw [j1 j h1, set_getD]
    by_cases e : j = i
    · subst e
      rw [if_pos ⟨rfl, hb⟩, if_pos ⟨rfl, by omega⟩, i1 j h1, h0]
      exact tornv_again _ _ _ (hz _ (mem_getD hb))
    · have hne : ¬ (ws.getD j (0, [])).1 = (ws.getD i (0, [])).1 := by
        intro q
        rcases Nat.lt_or_gt_of_ne e with r | r
        · have := hs j i r hi; omega
        · have := hs i j r h1; omega
      rw [if_neg (fun q => hne q.1), if_neg (fun q => e q.1)]
      exact i1 j h1
  · rw [if_neg (fun q => h ⟨i, hi, q.1.symm⟩), i2 m (fun j hj q => h ⟨j, hj, q⟩), j2 m (fun j hj q => h ⟨j, hj, q⟩)]
/-- What is pending of the document's disk. -/
theorem pndR_lt (r : Rd) (k : Nat) : ∀ x ∈ pndR r k, x.1 < k := by
  induction k with
  | zero => intro x hx; cases hx
  | succ k ih =>
    intro x hx
    simp only [pndR] at hx
    split at hx
    · rcases List.mem_append.1 hx with q | q
      · have := ih x q; omega
      · rw [List.mem_singleton.1 q]; show k < k + 1; omega
    · have := ih x hx; omega
theorem pndR_srt (r : Rd) (k : Nat) : Srt (pndR r k) := by
  induction k with
  | zero => intro i j h1 h2; simp [pndR] at h2
  | succ k ih =>
    simp only [pndR]
    split
    · exact ih.snoc (fun y hy => pndR_lt r k y hy)
    · exact ih
theorem pndR_fnd (r : Rd) (k m : Nat) : fnd (pndR r k) m = if m < k ∧ r.is.getD m false = true then some (r.p.getD m []) else none := by
  induction k with
  | zero => simp [pndR, fnd]
  | succ k ih =>
    simp only [pndR]
    by_cases hb : r.is.getD k false = true
    · rw [if_pos hb, fnd_append, ih]
      by_cases e : m = k
      · subst e
        rw [if_neg (by omega), if_pos ⟨by omega, hb⟩]
        simp [fnd]
      · by_cases h : m < k ∧ r.is.getD m false = true
        · rw [if_pos h, if_pos ⟨by omega, h.2⟩]
        · rw [if_neg h, if_neg (fun q => h ⟨by omega, q.2⟩)]
          have : ¬ k = m := fun q => e q.symm
          simp [fnd, this]
    · rw [if_neg hb, ih]
      by_cases e : m = k
      · subst e
        rw [if_neg (by omega), if_neg (fun q => hb q.2)]
      · by_cases h : m < k ∧ r.is.getD m false = true
        · rw [if_pos h, if_pos ⟨by omega, h.2⟩]
        · rw [if_neg h, if_neg (fun q => h ⟨by omega, q.2⟩)]
end Go.Proofs.Ytpelmacblglhoaa
