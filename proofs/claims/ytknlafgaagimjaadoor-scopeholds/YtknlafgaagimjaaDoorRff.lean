import Derived.Test.YtknlafgaagimjaaDoorRfe
namespace Go.Proofs.YtknlafgaagimjaaDoor
open Go.RowKit Go.Lib
theorem rise_snoc (u : List Bs) (x : Bs) : ins x (rise u) = rise (u ++ [x]) :=
  (rise_of (rs_ins (rs_rise u)) fun y => by rw [mem_ins, mem_rise, List.mem_append, List.mem_singleton, or_comm]).symm
theorem rise_len (u : List Bs) : (rise u).length ≤ u.length := by
  induction u with
  | nil => simp [rise]
  | cons a r ih =>
    show (ins a (rise r)).length ≤ r.length + 1
    have h : ∀ l : List Bs, (ins a l).length ≤ l.length + 1 := by
      intro l
      induction l with
      | nil => simp [ins]
      | cons b t ih2 =>
        unfold ins
        split
        · simp
        · split
          · simp
          · simp only [List.length_cons]; omega
    have := h (rise r)
    omega
theorem spl_lnt (s : Bs) (hs : s.length < 4294967281) : Lnt (spl s) := fun j => by
  by_cases hj : j < (spl s).length
  · have h2 : ∀ (s : Bs), ∀ x ∈ spl s, x.length ≤ s.length := by
      intro s
      induction s with
      | nil => intro x hx; simp [spl] at hx; subst hx; simp
      | cons c r ih =>
        intro x hx
        unfold spl at hx
        split at hx
        · rcases List.mem_cons.1 hx with q | q
          · subst q; simp
          · have := ih x q; simp only [List.length_cons]; omega
        · revert hx
          cases hq : spl r with
          | nil => intro hx; simp at hx; subst hx; simp
          | cons a t =>
            intro hx
            rw [hq] at ih
            rcases List.mem_cons.1 hx with q | q
            · subst q; have := ih a (by simp); simp only [List.length_cons]; omega
            · have := ih x (by simp [q]); simp only [List.length_cons]; omega
    have e : (spl s).getD j [] = (spl s)[j] := by simp [hj]
    rw [e]
    have := h2 s _ (List.getElem_mem hj)
    omega
  · have e : (spl s).getD j [] = [] := by simp [List.getElem?_eq_none (Nat.le_of_not_lt hj)]
    rw [e]
    simp
set_option maxHeartbeats 8000000 in
set_option maxRecDepth 8000 in
theorem refParse_any (s : Bs) (w : World) (hs : s.length < 4294967281) : Calls Tryd.prog 11 #[S s] w (OutP w (parse s)) := by
  by_cases h0 : s = []
  · subst h0
    have HE : Hid (parse [] = ([], 0)) := hide rfl
    generalize parse [] = r at *
    go_enter Tryd.func11, Tryd.ntmps11
    go_wp2
    go_ret2
    rw [unhide HE]
    exact ⟨none, 0, rfl, own_nil _ _, Below.refl _ _⟩
  · have HE : Hid (parse s = if (spl s).all nm then bound (rise (spl s)) else ([], 60)) := hide (by unfold parse; rw [if_neg h0])
    have HPC := hide (pieces_any s w hs)
    have HLN := hide (spl_lnt s hs)
    have hcn := spl_cnt s
    have heq : List.isEmpty s = false := by
      cases s with
      | nil => exact absurd rfl h0
      | cons c r => rfl
    clear h0
    generalize parse s = r at *
    generalize spl s = u at *
    go_enter Tryd.func11, Tryd.ntmps11
    go_wp2_with fail
    refine (unhide HPC).mono ?_
    rintro e w1 ⟨a1, c1, rfl, o1, b1⟩
    have HP := hide o1.sts
    have HB1 := hide b1
    have hz1 := b1.size
    clear o1 b1 HPC heq
    go_wp2
    go_loopw [5, 6] (fun v i wq => ∃ k : Nat, k ≤ u.length ∧ i = .int .i64 k ∧ (u.take k).all nm = true ∧ Own w.heap.size wq v (rise (u.take k)) ∧ Below w1.heap.size w1 wq) (fun _ i _ => u.length - (Go.RowKit.intOf i).toNat)
    case atStart => exact ⟨0, Nat.zero_le _, rfl, rfl, own_nil _ _, Below.refl _ _⟩
    case round =>
      obtain ⟨k, hk, rfl, hall, ho, hbel⟩ := hrel
      obtain ⟨va, vc, rfl⟩ := ho.form
      have HO := hide ho
      have HB := hide hbel
      have hzB := hbel.size
      have HAL := hide hall
      have hrl := rise_len (u.take k)
      rw [List.length_take] at hrl
      by_cases hlt : k < u.length
      · obtain ⟨p, o, rfl, hpl, hcw⟩ := (unhide HP).at hlt
        have hc0 := (hbel.cell (p := ⟨p, o + k, none⟩) hpl).trans hcw
        have hlt' : (k : Int) < (u.length : Int) := by omega
        have HNM := hide (fun W => refName_any (u.getD k []) W (unhide HLN k))
        have HNO := hide (all_get nm u k hlt)
        have HTK := hide (show u.take (k + 1) = u.take k ++ [u.getD k []] by rw [take_snoc u k hlt]; simp [hlt])
        clear ho hbel hall hcw
        generalize u.getD k [] = x at *
        cases hx : nm x
        · rw [hx] at HNM
          have HF := hide (unhide HNO hx)
          clear HNO HTK hx HAL HO
          go_wp2_with (first | (go_at_call 30; refine (unhide HNM _).mono ?_; rintro e w2 ⟨rfl, rfl⟩))
          go_ret2
          rw [unhide HE, unhide HF]
          exact ⟨none, 0, rfl, own_nil _ _, bel2 (unhide HB1) (unhide HB)⟩
        · rw [hx] at HNM
          have HALL := hide (show (u.take (k + 1)).all nm = true by rw [unhide HTK]; simp [unhide HAL, hx])
          have HWI := hide (with_any w.heap.size va vc (rise (u.take k)) x wr (unhide HO) (by omega) (by omega) (rs_rise _))
          rw [rise_snoc, ← unhide HTK] at HWI
          clear HNO HTK hx HAL HO
          go_wp2_with (first | (go_at_call 30; refine (unhide HNM _).mono ?_; rintro e w2 ⟨rfl, rfl⟩) | (go_at_call 31; refine (unhide HWI).mono ?_; rintro e w3 ⟨a3, c3, rfl, o3, b3⟩; have HO3 := hide o3; have HB3 := hide b3; clear o3 b3))
          refine ⟨⟨k + 1, by omega, by go_num, unhide HALL, unhide HO3, (unhide HB).trans ((unhide HB3).mono hzB)⟩, by simp [Go.RowKit.intOf]; omega⟩
      · have hd : ¬ (k : Int) < (u.length : Int) := by omega
        have e : u.take k = u := List.take_of_length_le (by omega)
        rw [e] at hall ho hrl
        have HALL := hide hall
        have HO2 := hide ho
        rw [e]
        have HF := hide (fits_any va (rise u).length vc (rise u) wr ho.sts (by omega) (fun h8 => tx_names (rise_names (List.all_eq_true.1 hall)) h8))
        have HBD : Hid (bound (rise u) = if many (rise u) then ([], 61) else (rise u, 0)) := hide rfl
        clear hall ho hbel e HAL HO
        generalize bound (rise u) = bd at *
        cases hmn : many (rise u)
        · rw [hmn] at HF HBD
          clear hmn
          go_wp2_with (first | (go_at_call 32; refine (unhide HF).mono ?_; rintro e w2 ⟨rfl, rfl⟩))
          go_ret2
          rw [unhide HE, unhide HALL, if_pos rfl, unhide HBD]
          exact ⟨va, vc, rfl, unhide HO2, bel2 (unhide HB1) (unhide HB)⟩
        · rw [hmn] at HF HBD
          clear hmn
          go_wp2_with (first | (go_at_call 32; refine (unhide HF).mono ?_; rintro e w2 ⟨rfl, rfl⟩))
          go_ret2
          rw [unhide HE, unhide HALL, if_pos rfl, unhide HBD]
          exact ⟨none, 0, rfl, own_nil _ _, bel2 (unhide HB1) (unhide HB)⟩
end Go.Proofs.YtknlafgaagimjaaDoor
