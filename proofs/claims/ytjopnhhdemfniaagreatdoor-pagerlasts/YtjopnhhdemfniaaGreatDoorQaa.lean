import Derived.Test.YtjopnhhdemfniaaGreatDoorZdetl
import Derived.Test.YtjopnhhdemfniaaGreatDoorZpic
import Derived.Test.YtjopnhhdemfniaaGreatDoorPmo
namespace Go.Proofs.YtjopnhhdemfniaaGreatDoor
open Go.RowKit
set_option maxHeartbeats 8000000
set_option maxRecDepth 8000
theorem take_next (M : List Int) (k : Nat) (h : k < M.length) : M.take (k + 1) = M.take k ++ [M.getD k 0] := by
  rw [List.take_add_one, List.getD_eq_getElem?_getD, List.getElem?_eq_getElem h]
  rfl
/-- The law's numbers of pages. -/
theorem numbers_any (a : Option Addr) (n cap : Nat) (l : List Pg) (w : World) (hp : Pgs w a n l) (hn : n ≤ 1000000000) :
    Calls Tryz.prog 45 #[.slice a n cap] w fun e w' => ∃ V, e = .returned V ∧ w'.ownsRow 0 3 1 V n ((l.map Pg.number).map fun z => I z) ∧ (∀ k, V.ownBlock = some k → w.heap.size ≤ k) ∧ Below w.heap.size w w' := by
  have hN := hp.1
  have hml : (l.map Pg.number).length = n := by rw [List.length_map]; exact hN.symm
  have hgd : ∀ k, k < n → (l.map Pg.number).getD k 0 = (l.getD k noPg).number := by
    intro k hk
    have : k < l.length := by omega
    simp [this]
  generalize hM : l.map Pg.number = M at *
  have HP := hide hp
  have HM := hide hgd
  have HL := hide hml
  clear hp hgd hM hN
  go_enter Tryz.func45, Tryz.ntmps45
  go_wp2
  go_loopw [3, 4] (fun v i wr => ∃ k : Nat, k ≤ n ∧ i = .int .i64 k ∧ wr.ownsRow 0 3 1 v k ((M.take k).map fun z => I z) ∧ (∀ q, v.ownBlock = some q → w.heap.size ≤ q) ∧ Below w.heap.size w wr) (fun _ i _ => n - (Go.RowKit.intOf i).toNat)
  case atStart => exact ⟨0, by omega, rfl, owns_nil _ _ _, (fun _ q => nomatch q), Below.refl _ _⟩
  case round =>
    obtain ⟨k, hk, rfl, ho, hv, hb⟩ := hrel
    obtain ⟨pv, cv, rfl⟩ := owns_form ho
    by_cases hlt : k < n
    · have hlt' : (k : Int) < (n : Int) := by omega
      obtain ⟨g, o, q, c, rfl, hg, c0, c1, c2, c3, c4, hi⟩ := ((unhide HP).below hb).at hlt
      have hmn := unhide HM k hlt
      have HNX := hide (take_next M k (by have := unhide HL; omega))
      rw [hmn] at HNX
      have HO := hide ho
      have HV := hide hv
      have HB := hide hb
      generalize (l.getD k noPg).number = z at *
      clear ho hv hb c0 c2 c3 c4 hi hmn
      go_wp2_with (at_builtin; refine push_own 22 3 _ 1 8 Tryz.underlying22 info3 rfl (by decide) rfl (.tmp 11) (.tmp 17) rfl (.slice pv k cv) k _ (by rfl) wr (unhide HO) [I z] rfl (by simp [Value.oneCell']) (by rfl) (by omega) (by omega) ?_)
      intro p8 c8 w8 r8 o8 n8
      have HR := hide (show w8.ownsRow 0 3 1 (.slice p8 (k + 1) c8) (k + 1) ((M.take (k + 1)).map fun z => I z) by rw [unhide HNX]; simpa using r8)
      have HB8 := hide (o8.below (unhide HB) (unhide HB).size (fun q hq => unhide HV q hq))
      have HV8 := hide (fun q (hq : (Value.slice p8 (k + 1) c8).ownBlock = some q) => (n8 q hq).elim (unhide HV q) (fun r => Nat.le_trans (unhide HB).size r))
      clear r8 o8 n8 c1
      go_wp2
      go_round
      case measure => simp [Go.RowKit.intOf] <;> omega
      case rel => exact ⟨k + 1, by omega, by simp, unhide HR, unhide HV8, unhide HB8⟩
    · have hlt' : ¬ (k : Int) < (n : Int) := by omega
      obtain rfl : k = n := by omega
      rw [List.take_of_length_le (by have := unhide HL; omega)] at ho
      have HO := hide ho
      have HV := hide hv
      have HB := hide hb
      clear ho hv hb
      go_wp2
      go_ret
      exact ⟨_, rfl, unhide HO, unhide HV, unhide HB⟩
/-- The law's page of a raw number. -/
def lfb (c : Int) (k : Nat) : Bs := (List.range k).map fun i : Nat => UInt8.ofNat ((c + (i : Int)) % 256).toNat
def leafv (n c : Int) : Pg := ⟨1 + ((pkv c 3 : Nat) : Int), n, 0, [], lfb c (pkv c 60)⟩
def lfh (c : Int) (s k : Nat) : List Value := (List.range s).map fun i : Nat => .int .u8 (if i < k then (c + i) % 256 else 0)
theorem lfh_zero (c : Int) (s : Nat) : lfh c s 0 = List.replicate s (.int .u8 0) := by
  apply List.ext_getElem
  · simp [lfh]
  · intro i h1 h2
    simp [lfh]
theorem lfh_set (c : Int) (s k : Nat) : (lfh c s k).set k (.int .u8 ((c + k) % 256)) = lfh c s (k + 1) := by
  apply List.ext_getElem
  · simp [lfh]
  · intro i h1 h2
    rw [List.getElem_set]
    by_cases e : k = i
    · subst e
      simp [lfh]
    · rw [if_neg e]
      simp only [lfh, List.getElem_map, List.getElem_range]
      by_cases q : i < k
      · rw [if_pos q, if_pos (by omega)]
      · rw [if_neg q, if_neg (by omega)]
theorem lfh_at (c : Int) (s j : Nat) (hj : j < s) : (lfh c s s)[j]? = some (.int .u8 (((lfb c s).getD j 0).toNat : Int)) := by
  simp [lfh, lfb, hj]
  omega
theorem leaf_any (n c : Int) (w : World) (h0 : 0 ≤ c) (h1 : c ≤ 9000000000000000000) :
    Calls Tryz.prog 189 #[I n, I c] w fun e w' => e = .returned (pga (leafv n c) none 0) ∧ Below w.heap.size w w' := by
  have P1 := hide (fun W => pick_any c 60 W (by omega) (by omega) (by omega) (by omega))
  have P2 := hide (fun W => pick_any c 3 W (by omega) (by omega) (by omega) (by omega))
  have l1 := pkv_lt c 60 (by omega)
  have l2 := pkv_lt c 3 (by omega)
  have hg := heap_alloc_new w (.cells #[I 0, I 0, I 0, .slice none 0 0, .string ⟨#[]⟩] 24)
  have HG := hide hg
  have HBA := hide ((Below.refl w.heap.size w).alloc (Nat.le_refl _) (.cells #[I 0, I 0, I 0, .slice none 0 0, .string ⟨#[]⟩] 24))
  have HSA := hide (show (w.alloc (.cells #[I 0, I 0, I 0, .slice none 0 0, .string ⟨#[]⟩] 24)).heap.size = w.heap.size + 1 by simp)
  have HF := hide (show leafv n c = ⟨1 + ((pkv c 3 : Nat) : Int), n, 0, [], lfb c (pkv c 60)⟩ from rfl)
  clear hg
  generalize leafv n c = F at *
  generalize pkv c 60 = s at *
  generalize pkv c 3 = k1 at *
  go_enter Tryz.func189, Tryz.ntmps189
  go_wp2_with fail
  refine (unhide P1 _).mono ?_
  rintro e wa ⟨rfl, hwa⟩
  rw [hwa]
  clear hwa wa P1
  generalize hWA : w.alloc (.cells #[I 0, I 0, I 0, .slice none 0 0, .string ⟨#[]⟩] 24) = WA at *
  clear hWA
  go_wp2_with (refine make1 inf5 Tryz.underlying117 rfl (.tmp 8) (.tmp 8) rfl _ _ s (by rfl) (by rfl) rfl rfl (by omega) ?_; intro w1 hb1 k1')
  rw [← lfh_zero c s] at hb1
  have HB := hide hb1
  have HK := hide k1'
  clear hb1 k1'
  go_wp2
  go_loopw [6] (fun i wr => ∃ k : Nat, k ≤ s ∧ i = .int .i64 k ∧ Rw 5 WA.heap.size (lfh c s k) wr ∧ Below WA.heap.size WA wr) (fun i _ => s - (Go.RowKit.intOf i).toNat)
  case atStart => exact ⟨0, by omega, rfl, unhide HB, unhide HK⟩
  case round =>
    obtain ⟨k, hk, rfl, hrw, hbr⟩ := hrel
    by_cases hlt : k < s
    · have hlt' : (k : Int) < (s : Int) := by omega
      have hst := hrw.set k (.int .u8 ((c + (k : Int)) % 256))
      rw [lfh_set c s k] at hst
      have hcell := hrw.cell k
      rw [List.getElem?_eq_getElem (show k < (lfh c s k).length by unfold lfh; simp; omega)] at hcell
      have hfz := hrw.fz k
      generalize (lfh c s k)[k]'(by unfold lfh; simp; omega) = v0 at hcell
      have HST := hide hst
      have HBR := hide (hbr.setCell (p := ⟨WA.heap.size, k, none⟩) (Nat.le_refl _) (.int .u8 ((c + (k : Int)) % 256)))
      have hw8 : IntKind.u8.wrap (c + (k : Int)) = (c + (k : Int)) % 256 := IntKind.wrap_u8 _
      clear hst hrw hbr
      go_wp2
      go_round
      case measure => simp [Go.RowKit.intOf] <;> omega
      case rel => exact ⟨k + 1, by omega, by simp, unhide HST, unhide HBR⟩
    · have hlt' : ¬ (k : Int) < (s : Int) := by omega
      obtain rfl : k = s := by omega
      have hcells : ∀ j, j < k → wr.cell? ⟨WA.heap.size, 0 + j, none⟩ = some (.int .u8 (((lfb c k).getD j 0).toNat : Int)) := fun j hj => by
        rw [Nat.zero_add, hrw.cell, lfh_at c k j hj]
      have HC := hide hcells
      have HBR := hide hbr
      have hlen : (lfb c k).length = k := by simp [lfb]
      have HLN := hide hlen
      clear hcells hrw hbr hlen
      generalize lfb c k = X at *
      go_upto_region 6 with fail
      refine rlf6 w.heap.size k k (some ⟨WA.heap.size, 0, none⟩) n c k1 X (by kernel_rfl) (by kernel_rfl) (by kernel_rfl) _ _ (by show 30 ≤ Array.size _; simp) rfl rfl rfl rfl (fun _ L W => (L 7 = false → W = wr.drew) ∧ (L 7 = true → W = wr.drew.setRow w.heap.size #[I (1 + (k1 : Int)), I n, I 0, .slice none 0 0, S X])) ⟨(), fun _ => rfl, (fun q => nomatch q)⟩ ?_ ?_ ?_ ?_ ?_ ?_ ?_
      · intro i hi c L W hW
        simp only [List.mem_cons, List.not_mem_nil, or_false, not_or] at hi
        rw [upd_ne (Ne.symm hi.2)]
        exact hW
      · intro c L W hW _ _
        refine (unhide P2 W).mono ?_
        rintro e w' ⟨rfl, hw⟩
        rw [hw]
        exact ⟨c, fun _ _ => rfl, rfl, by rw [upd_ne (by decide)]; exact hW⟩
      · exact fun W => s_add _ _ _ _ (by omega) (by omega)
      · intro c L W hW _ _
        refine run_text W WA.heap.size 0 k k X (unhide HLN) (fun j hj => ?_)
        have hne : WA.heap.size ≠ w.heap.size := by have := unhide HSA; omega
        cases q : L 7
        · rw [hW.1 q]
          exact unhide HC j hj
        · rw [hW.2 q]
          exact (World.cell?_of_block (setRow_other wr.drew w.heap.size WA.heap.size _ hne)).trans (unhide HC j hj)
      · intro W
        simp [go_sem, Tryz.zeroValue24]
      · intro c L W hW hL _
        have hrow : wr.drew.heap[w.heap.size]? = some (.cells #[I 0, I 0, I 0, .slice none 0 0, .string ⟨#[]⟩] 24 (0, 0)) := ((unhide HBR).block _ (lt_of_row (unhide HG))).trans (unhide HG)
        refine ⟨wr.drew.setRow w.heap.size #[I (1 + (k1 : Int)), I n, I 0, .slice none 0 0, S X], ?_, fun q => ?_, fun _ => rfl⟩
        · rw [hW.1 hL]
          exact s_sta Tryz.sizeOf24 (o := 0) hrow (.agg #[I (1 + (k1 : Int)), I n, I 0, .slice none 0 0, S X]) rfl (by simp) (by simp [Value.cells, Value.oneCell'])
        · rw [upd_self] at q
          cases q
      intro _ L W hall hW
      have hWe := hW.2 (hall 7 (by omega))
      have hrow : wr.drew.heap[w.heap.size]? = some (.cells #[I 0, I 0, I 0, .slice none 0 0, .string ⟨#[]⟩] 24 (0, 0)) := ((unhide HBR).block _ (lt_of_row (unhide HG))).trans (unhide HG)
      have HRW := hide (setRow_row (vs := #[I (1 + (k1 : Int)), I n, I 0, .slice none 0 0, S X]) hrow)
      have HBF := hide (belowR ((unhide HBA).trans ((unhide HBR).drew.mono (by have := unhide HSA; omega))) (Nat.le_refl _) #[I (1 + (k1 : Int)), I n, I 0, .slice none 0 0, S X])
      subst hWe
      clear hW hall hrow
      simp only [Act.put, List.setIfInBounds_toArray, List.set_cons_succ, List.set_cons_zero]
      go_wp2
      refine out1c Tryz.isAgg24 Tryz.sizeOf24 (p := 4) Tryz.results189 rfl (by rfl) (unhide HRW) rfl ?_
      exact ⟨by rw [unhide HF]; rfl, unhide HBF⟩
end Go.Proofs.YtjopnhhdemfniaaGreatDoor
