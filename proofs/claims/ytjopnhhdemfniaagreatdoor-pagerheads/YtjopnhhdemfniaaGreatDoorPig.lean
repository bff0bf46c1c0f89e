import Derived.Test.YtjopnhhdemfniaaGreatDoorZpic
namespace Go.Proofs.YtjopnhhdemfniaaGreatDoor
open Go.RowKit
set_option maxHeartbeats 8000000
set_option maxRecDepth 8000
/-- Pages in memory. -/
def Pgs (w : World) (a : Option Addr) (n : Nat) (l : List Pg) : Prop :=
  n = l.length ∧ (0 < n → ∃ g o, a = some ⟨g, o, none⟩ ∧ ∀ j, j < n → ∃ q c, w.cell? ⟨g, o + j * 5, none⟩ = some (I (l.getD j noPg).kind) ∧ w.cell? ⟨g, o + j * 5 + 1, none⟩ = some (I (l.getD j noPg).number) ∧ w.cell? ⟨g, o + j * 5 + 2, none⟩ = some (I (l.getD j noPg).birth) ∧ w.cell? ⟨g, o + j * 5 + 3, none⟩ = some (.slice q (l.getD j noPg).links.length c) ∧ w.cell? ⟨g, o + j * 5 + 4, none⟩ = some (S (l.getD j noPg).body) ∧ Ins w q (l.getD j noPg).links.length (l.getD j noPg).links)
theorem Pgs.below {w w' : World} {a : Option Addr} {n : Nat} {l : List Pg} (h : Pgs w a n l) (hb : Below w.heap.size w w') : Pgs w' a n l := by
  refine ⟨h.1, fun hn => ?_⟩
  obtain ⟨g, o, e, hc⟩ := h.2 hn
  refine ⟨g, o, e, fun j hj => ?_⟩
  obtain ⟨q, c, c0, c1, c2, c3, c4, hi⟩ := hc j hj
  have hg := blk_lt c0
  exact ⟨q, c, (hb.cell hg).trans c0, (hb.cell hg).trans c1, (hb.cell hg).trans c2, (hb.cell hg).trans c3, (hb.cell hg).trans c4, hi.below hb⟩
theorem Pgs.at {w : World} {a : Option Addr} {n : Nat} {l : List Pg} (h : Pgs w a n l) {j : Nat} (hj : j < n) : ∃ g o q c, a = some ⟨g, o, none⟩ ∧ g < w.heap.size ∧ w.cell? ⟨g, o + j * 5, none⟩ = some (I (l.getD j noPg).kind) ∧ w.cell? ⟨g, o + j * 5 + 1, none⟩ = some (I (l.getD j noPg).number) ∧ w.cell? ⟨g, o + j * 5 + 2, none⟩ = some (I (l.getD j noPg).birth) ∧ w.cell? ⟨g, o + j * 5 + 3, none⟩ = some (.slice q (l.getD j noPg).links.length c) ∧ w.cell? ⟨g, o + j * 5 + 4, none⟩ = some (S (l.getD j noPg).body) ∧ Ins w q (l.getD j noPg).links.length (l.getD j noPg).links := by
  obtain ⟨g, o, e, hc⟩ := h.2 (by omega)
  obtain ⟨q, c, c0, c1, c2, c3, c4, hi⟩ := hc j hj
  exact ⟨g, o, q, c, e, blk_lt c0, c0, c1, c2, c3, c4, hi⟩
/-- What pages bear that are not too great. -/
def Fit (l : List Pg) : Prop := ∀ x ∈ l, x.links.length ≤ 1000000000000 ∧ x.body.length ≤ 1000000000000
theorem Fit.at {l : List Pg} (h : Fit l) {k : Nat} (hk : k < l.length) : (l.getD k noPg).links.length ≤ 1000000000000 ∧ (l.getD k noPg).body.length ≤ 1000000000000 := h _ (mem_getD hk)
theorem allF_next (l : List Pg) (k : Nat) (hk : k < l.length) : (l.take (k + 1)).all Pg.fresh = ((l.take k).all Pg.fresh && (l.getD k noPg).fresh) := by
  rw [List.take_succ_eq_append_getElem hk, List.all_append]
  simp [hk]
theorem allF_bad (l : List Pg) (k : Nat) (hk : k < l.length) (h : (l.getD k noPg).fresh = false) : l.all Pg.fresh = false := by
  rw [Bool.eq_false_iff]
  intro q
  rw [List.all_eq_true] at q
  have := q (l.getD k noPg) (mem_getD hk)
  rw [h] at this
  cases this
theorem allMayBe_any (a : Option Addr) (n cap : Nat) (l : List Pg) (w : World) (hp : Pgs w a n l) (hf : Fit l) (hn : n ≤ 1000000000000) :
    Calls Tryz.prog 124 #[.slice a n cap] w fun e w' => e = .returned (.bool (l.all Pg.fresh)) ∧ Below w.heap.size w w' := by
  have hN := hp.1
  subst hN
  have HP := hide hp
  have HF := hide hf
  clear hp hf
  go_enter Tryz.func124, Tryz.ntmps124
  go_wp2
  go_loopw [7] (fun i wr => ∃ k : Nat, k ≤ l.length ∧ i = .int .i64 k ∧ (l.take k).all Pg.fresh = true ∧ Below w.heap.size w wr) (fun i _ => l.length - (Go.RowKit.intOf i).toNat)
  case atStart => exact ⟨0, by omega, rfl, rfl, Below.refl _ _⟩
  case round =>
    obtain ⟨k, hk, rfl, ha, hb⟩ := hrel
    by_cases hlt : k < l.length
    · have hlt' : (k : Int) < (l.length : Int) := by omega
      obtain ⟨g, o, q, c, rfl, hg, c0, c1, c2, c3, c4, hi⟩ := ((unhide HP).below hb).at hlt
      have hft := (unhide HF).at hlt
      have HN := hide (allF_next l k hlt)
      have HW := hide (allF_bad l k hlt)
      generalize l.getD k noPg = x at *
      have bA := (Below.refl wr.heap.size wr).alloc (Nat.le_refl _) (.cells (pgc x q c) 24)
      have H1 := hide (mayBeFresh_any x q c _ (hi.below bA) hft.1 hft.2)
      have HB := hide (hb.trans (bA.mono hb.size))
      have HA := hide ha
      clear ha hb bA hi hft
      generalize x.fresh = fr at *
      obtain ⟨xk, xn, xb, xl, xs⟩ := x
      unfold pga pgc at H1
      unfold pgc at HB
      simp only at c0 c1 c2 c3 c4 H1 HB
      generalize xl.length = m at *
      go_wp2_with fail
      refine (unhide H1).mono ?_
      rintro e w1 ⟨rfl, b1⟩
      have HB1 := hide ((unhide HB).trans (b1.mono (unhide HB).size))
      clear b1
      cases fr
      · go_wp2
        go_ret
        exact ⟨ret_bool (by first | exact (unhide HW rfl).symm | exact (unhide HW trivial).symm), unhide HB1⟩
      · have HA2 := hide (show (l.take (k + 1)).all Pg.fresh = true by rw [unhide HN, unhide HA]; rfl)
        go_wp2
        go_round
        case measure => simp [Go.RowKit.intOf]; omega
        case rel => exact ⟨k + 1, by omega, by simp, unhide HA2, unhide HB1⟩
    · have hlt' : ¬ (k : Int) < (l.length : Int) := by omega
      rw [List.take_of_length_le (by omega)] at ha
      have HA := hide ha
      have HB := hide hb
      clear ha hb
      go_wp2
      go_ret
      exact ⟨ret_bool (unhide HA).symm, unhide HB⟩
/-- Numbers half laid. -/
def hlf (l : List Int) (k : Nat) : List Value := (l.take k).map (fun z => I z) ++ List.replicate (l.length - k) (I 0)
theorem hlf_zero (l : List Int) : hlf l 0 = List.replicate l.length (I 0) := by simp [hlf]
theorem hlf_all (l : List Int) : hlf l l.length = l.map fun z => I z := by simp [hlf]
theorem hlf_len (l : List Int) (k : Nat) (hk : k ≤ l.length) : (hlf l k).length = l.length := by simp [hlf]; omega
theorem hlf_set (l : List Int) (k : Nat) (hk : k < l.length) : (hlf l k).set k (I (l.getD k 0)) = hlf l (k + 1) := by
  unfold hlf
  rw [List.set_append_right _ _ (by simp; omega)]
  have e : k - (List.map (fun z => I z) (l.take k)).length = 0 := by simp; omega
  rw [e, show l.length - k = (l.length - (k + 1)) + 1 by omega, List.replicate_succ, List.set_cons_zero, List.take_succ_eq_append_getElem hk, List.map_append, List.append_assoc]
  simp [hk]
theorem numbersOf_any (a : Option Addr) (n cap : Nat) (l : List Pg) (w : World) (hp : Pgs w a n l) (hn : n ≤ 1000000000) :
    Calls Tryz.prog 123 #[.slice a n cap] w fun e w' => ∃ V, e = .returned V ∧ w'.ownsRow 0 3 1 V n ((l.map Pg.number).map fun z => I z) ∧ (∀ k, V.ownBlock = some k → w.heap.size ≤ k) ∧ Below w.heap.size w w' := by
  have hN := hp.1
  have hml : (l.map Pg.number).length = n := by rw [List.length_map]; exact hN.symm
  have hgd : ∀ k, k < n → (l.map Pg.number).getD k 0 = (l.getD k noPg).number := by
    intro k hk
    have : k < l.length := by omega
    simp [this]
  generalize hM : l.map Pg.number = M at *
  have HP := hide hp
  have HM := hide hgd
  have HL := hide hml
  clear hp hgd hM hN
  go_enter Tryz.func123, Tryz.ntmps123
  go_wp2_with (refine make_own 22 3 _ 1 8 Tryz.underlying22 info3 rfl (.tmp 7) (.tmp 7) rfl _ _ n (by rfl) (by rfl) rfl rfl (by omega) (by omega) ?_; intro w1 ho1 b1 l1; have HO := hide ho1; have HB1 := hide b1; clear ho1 b1)
  have HO2 : Hid (w1.ownsRow 0 3 1 (.slice (some ⟨w.heap.size, 0, none⟩) n n) n (hlf M 0)) := hide (by
    have := unhide HO
    rw [hlf_zero, unhide HL]
    rw [Nat.mul_one, made1 _ rfl n] at this
    exact this)
  clear HO
  go_loopw [11] (fun i wr => ∃ k : Nat, k ≤ n ∧ i = .int .i64 k ∧ wr.ownsRow 0 3 1 (.slice (some ⟨w.heap.size, 0, none⟩) n n) n (hlf M k) ∧ Below w.heap.size w wr) (fun i _ => n - (Go.RowKit.intOf i).toNat)
  case atStart => exact ⟨0, by omega, rfl, unhide HO2, unhide HB1⟩
  case round =>
    clear HO2 HB1
    obtain ⟨k, hk, rfl, ho, hb⟩ := hrel
    by_cases hlt : k < n
    · have hlt' : (k : Int) < (n : Int) := by omega
      obtain ⟨g, o, q, c, rfl, hg, c0, c1, c2, c3, c4, hi⟩ := ((unhide HP).below hb).at hlt
      have hv : M.getD k 0 = (l.getD k noPg).number := unhide HM k hlt
      have hml := unhide HL
      have hset := hlf_set M k (by omega)
      rw [hv] at hset
      generalize l.getD k noPg = x at *
      obtain ⟨xk, xn, xb, xl, xs⟩ := x
      simp only at c0 c1 c2 c3 c4 hset
      have bA := (Below.refl wr.heap.size wr).alloc (Nat.le_refl _) (.cells #[I xk, I xn, I xb, .slice q xl.length c, S xs] 24)
      have ho2 := owns_below ho bA
      have hcell : ∃ u, (wr.alloc (.cells #[I xk, I xn, I xb, .slice q xl.length c, S xs] 24)).cell? ⟨w.heap.size, k, none⟩ = some u := ⟨_, owns_cell ho2 k _ (List.getElem?_eq_getElem (by rw [hlf_len _ _ (by omega)]; omega))⟩
      obtain ⟨u0, hu0⟩ := hcell
      obtain ⟨gg, cc, cur, ee, hh, _⟩ := owns_at ho2 (by omega)
      have hgg : w.heap.size = gg := by cases ee; rfl
      have hfz : (wr.alloc (.cells #[I xk, I xn, I xb, .slice q xl.length c, S xs] 24)).frozen? ⟨w.heap.size, k, none⟩ = false := by rw [hgg]; exact frz hh k
      have hos := owns_set ho k (I xn)
      rw [hset] at hos
      have HOS := hide (owns_alloc hos (.cells #[I xk, I xn, I xb, .slice q xl.length c, S xs] 24))
      have HB := hide ((hb.setCell (p := ⟨w.heap.size, k, none⟩) (Nat.le_refl _) (I xn)).alloc (by simp [World.setCell]; exact hb.size) (.cells #[I xk, I xn, I xb, .slice q xl.length c, S xs] 24))
      have hwl : w.heap.size < wr.heap.size := owns_blk ho _ rfl
      clear ho hb bA ho2 hos hh ee hi hset hv hml hgg
      generalize xl.length = m at *
      go_wp2
      go_round
      case measure => simp [Go.RowKit.intOf]; omega
      case rel => exact ⟨k + 1, by omega, by simp, unhide HOS, unhide HB⟩
    · have hlt' : ¬ (k : Int) < (n : Int) := by omega
      obtain rfl : k = n := by omega
      rw [show hlf M k = M.map (fun z => I z) by rw [← unhide HL]; exact hlf_all M] at ho
      have HOS := hide ho
      have HB := hide hb
      clear ho hb
      go_wp2
      go_ret
      exact ⟨_, rfl, unhide HOS, fun i hi => by cases hi; exact Nat.le_refl _, unhide HB⟩
end Go.Proofs.YtjopnhhdemfniaaGreatDoor
