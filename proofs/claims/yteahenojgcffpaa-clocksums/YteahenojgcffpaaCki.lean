import Derived.Test.YteahenojgcffpaaCkh
namespace Go.Proofs.Yteahenojgcffpaa
open Go.RowKit
set_option maxHeartbeats 4000000
set_option maxRecDepth 8000
def ovr (l : List Int) (t : Int) (k : Nat) : List Int := List.replicate k t ++ (l.drop k ++ sp2)
theorem ovr_set (l : List Int) (t : Int) (k : Nat) (h : k < l.length) : (ovr l t k).set k t = ovr l t (k + 1) := by
  unfold ovr
  rw [List.set_append, if_neg (by simp), List.length_replicate, Nat.sub_self, List.drop_eq_getElem_cons h, List.cons_append, List.set_cons_zero, List.replicate_succ' (n := k), List.append_assoc]
  rfl
theorem mn_mn (m t : Int) : mn (mn m t) t = mn m t := by unfold mn; repeat' split
                                                         all_goals omega
theorem fold_rep (t m : Int) (n : Nat) : (List.replicate n t).foldl mn (mn m t) = mn m t := by
  induction n with
  | zero => rfl
  | succ n ih => rw [List.replicate_succ, List.foldl_cons, mn_mn, ih]
theorem first_rep (t : Int) (n : Nat) : firstv (List.replicate n t) = if n = 0 then 1099511627776 else firstv [t] := by
  cases n with
  | zero => rfl
  | succ n =>
    rw [if_neg (by omega)]
    unfold firstv
    rw [List.replicate_succ, List.foldl_cons, fold_rep]
    rfl
theorem sums_any (t d q : Int) (a : Option Addr) (n cap : Nat) (l : List Int) (w : World) (hd : In d) (hp : Ns w a n l) (hnone : a = none → cap = 0) (hn : n * 8 ≤ 140737488351232) : Calls Try.prog 4 #[I t, I d, I q, .slice a n cap] w fun e w' => e = .returned (.bool true) ∧ Below w.heap.size w w' := by
  have HP := hide hp
  have HN := hide hp.1
  have HO := hide hnone
  have hnn : n ≤ 17592186043904 := by omega
  have HN8 := hide hn
  have HD := hide hd
  clear hp hnone hn hd
  go_enter Try.func4, Try.ntmps4
  go_wp2_with fail
  refine (awake_any _).mono ?_
  rintro e w1 ⟨rfl, b1⟩
  have B1 := hide b1
  have HP1 := hide ((unhide HP).below b1)
  clear b1
  go_wp2_with fail
  refine (lent_any a n cap l w1 (unhide HP1) (unhide HO) (unhide HN8)).mono ?_
  rintro e w2 ⟨rfl, bl2, b2⟩
  have B2 := hide ((unhide B1).trans (b2.mono (unhide B1).size))
  have HP2 := hide ((unhide HP1).below b2)
  have HG := hide (unhide B1).size
  obtain ⟨g, hg⟩ : ∃ g, g = w1.heap.size := ⟨_, rfl⟩
  rw [← hg] at bl2 HG ⊢
  have BL2 := hide bl2
  have HNs := hide (show Ns w2 (some ⟨g, 0, none⟩) n l by rw [unhide HN]; exact bl2.part)
  clear bl2 b2 hg B1 HP1
  go_wp2_with fail
  refine (first_any _ n (n + 2) l w2 (unhide HNs) (by omega)).mono ?_
  rintro e w3 ⟨rfl, rfl⟩
  go_wp2_with fail
  refine (whole_any g a n cap l w3 (unhide BL2) (unhide HP2) hnn).mono ?_
  rintro e w4 ⟨rfl, b4⟩
  have B4 := hide ((unhide B2).trans (b4.mono (unhide B2).size))
  have BL4 := hide ((unhide BL2).keep b4)
  have HP4 := hide ((unhide HP2).below b4)
  clear b4 HNs B2 HP2 BL2
  go_wp2_with fail
  refine (refFirst_any a n cap l w4 (unhide HP4) (by omega)).mono ?_
  rintro e w5 ⟨rfl, rfl⟩
  go_wp2
  go_loopw [13] (fun i wr => ∃ k : Nat, k ≤ n ∧ i = .int .i64 k ∧ Blk g (ovr l t k) wr ∧ Below w.heap.size w wr) (fun i _ => n - (intOf i).toNat)
  case atStart => exact ⟨0, by omega, rfl, unhide BL4, unhide B4⟩
  case round =>
    obtain ⟨k, hkn, rfl, hb, hB⟩ := hrel
    clear BL4 B4 HP4
    by_cases hlt : k < n
    · have hkl : k < l.length := by have := unhide HN; omega
      have hc1 := hb.at k (by simp [ovr, sp2])
      have hz := frz hb k
      have hs := hb.set k t
      rw [ovr_set l t k hkl] at hs
      have HS := hide hs
      have HB := hide (hB.setCell (p := ⟨g, k, none⟩) (unhide HG) (I t))
      have hgl := hb.lt
      clear hs hb hB
      generalize (ovr l t k).getD k 0 = X at *
      go_wp2
      refine ⟨⟨k + 1, by omega, by go_num, unhide HS, unhide HB⟩, ?_⟩
      simp [intOf]; omega
    · have hklt : ¬ (k : Int) < (n : Int) := by omega
      obtain rfl : k = n := by omega
      have hns : Ns wr (some ⟨g, 0, none⟩) k (List.replicate k t) := by
        have := hb.part
        rw [List.length_replicate] at this
        exact this
      have HNS := hide hns
      have HBe := hide hB
      have HFr := hide (first_rep t k)
      clear hns hb hB hkn
      go_wp2_with fail
      refine (first_any _ k (k + 2) _ wr (unhide HNS) (by omega)).mono ?_
      rintro e w6 ⟨rfl, rfl⟩
      have HA := hide (fun W => add_any t d W)
      have HRA := hide (fun W => refAdd_any t d (unhide HD) W)
      have HL := hide (fun W => left_any t q W)
      have HRL := hide (fun W => refLeft_any t q W)
      have HW := hide (fun W => within_any t q d W)
      have HRW := hide (fun W => refWithin_any t q d W)
      generalize addv t d = x1 at *
      generalize leftv t q = x2 at *
      generalize inv t q d = x3 at *
      have HBA := hide ((unhide HBe).alloc (unhide HBe).size (.cells #[I t] 3 (0, 0)))
      have HN1 := hide (show Ns (w6.alloc (.cells #[I t] 3 (0, 0))) (some ⟨w6.heap.size, 0, none⟩) 1 [t] from by
        have h0 : Blk w6.heap.size ([t] ++ []) (w6.alloc (.cells #[I t] 3 (0, 0))) := (Array.getElem?_push_size : (w6.heap.push _)[_]? = _)
        exact h0.part)
      have HF1 := hide (refFirst_any (some ⟨w6.heap.size, 0, none⟩) 1 1 [t] _ (unhide HN1) (by omega))
      generalize firstv [t] = ft at *
      by_cases h0 : k = 0
      · subst h0
        rw [unhide HFr, if_pos rfl]
        clear HFr
        go_wp2_with fail
        refine (unhide HF1).mono ?_
        rintro e w7 ⟨rfl, rfl⟩
        go_wp2_with fail
        refine (unhide HA _).mono ?_
        rintro e w8 ⟨rfl, rfl⟩
        go_wp2_with fail
        refine (unhide HRA _).mono ?_
        rintro e w8 ⟨rfl, rfl⟩
        go_wp2_with fail
        refine (unhide HL _).mono ?_
        rintro e w8 ⟨rfl, rfl⟩
        go_wp2_with fail
        refine (unhide HRL _).mono ?_
        rintro e w8 ⟨rfl, rfl⟩
        go_wp2_with fail
        refine (unhide HW _).mono ?_
        rintro e w8 ⟨rfl, rfl⟩
        go_wp2_with fail
        refine (unhide HRW _).mono ?_
        rintro e w8 ⟨rfl, rfl⟩
        go_wp2
        go_ret
        exact ⟨ret_bool (by simp), unhide HBA⟩
      · rw [unhide HFr, if_neg h0]
        have hk0 : ((k : Int) == 0) = false := by rw [beq_eq_false_iff_ne]; omega
        clear HFr
        go_wp2_with fail
        refine (unhide HF1).mono ?_
        rintro e w7 ⟨rfl, rfl⟩
        go_wp2_with fail
        refine (unhide HA _).mono ?_
        rintro e w8 ⟨rfl, rfl⟩
        go_wp2_with fail
        refine (unhide HRA _).mono ?_
        rintro e w8 ⟨rfl, rfl⟩
        go_wp2_with fail
        refine (unhide HL _).mono ?_
        rintro e w8 ⟨rfl, rfl⟩
        go_wp2_with fail
        refine (unhide HRL _).mono ?_
        rintro e w8 ⟨rfl, rfl⟩
        go_wp2_with fail
        refine (unhide HW _).mono ?_
        rintro e w8 ⟨rfl, rfl⟩
        go_wp2_with fail
        refine (unhide HRW _).mono ?_
        rintro e w8 ⟨rfl, rfl⟩
        go_wp2
        go_ret
        exact ⟨ret_bool (by simp), unhide HBA⟩
end Go.Proofs.Yteahenojgcffpaa
