import Derived.Test.YtllialbdofklgaaGreatDoorZnoh
import Derived.Deep.CutRange
import Derived.Test.YtllialbdofklgaaGreatDoorNog
import Derived.Test.YtllialbdofklgaaGreatDoorZrgsd
namespace Go.Proofs.YtllialbdofklgaaGreatDoor
open Go.RowKit
set_option maxHeartbeats 16000000
set_option maxRecDepth 8000
theorem info114 : (Tryz.prog.info? 114).map (fun i => (i.zero, i.size, i.bytes)) = some (some (.agg #[I 0, I 0]), 2, 16) := by kernel_rfl
/-- Ends that are being laid. -/
structure Enk (w : World) (G n k : Nat) (e : Nat → Nat × Nat) : Prop where
  blk : ∃ cs, w.heap[G]? = some (.cells cs 114 (0, 0)) ∧ cs.size = n * 2 ∧ (∀ j, j < k → cs[j * 2]? = some (I (e j).1) ∧ cs[j * 2 + 1]? = some (I (e j).2)) ∧ ∀ j, j < n * 2 → ∃ z : Int, cs[j]? = some (I z)
theorem Enk.below {w w' : World} {G n k : Nat} {e : Nat → Nat × Nat} (h : Enk w G n k e) (hb : Below w.heap.size w w') : Enk w' G n k e := by
  obtain ⟨cs, h1, h2, h3⟩ := h.blk
  exact ⟨cs, (hb.block _ (lt_of_row h1)).trans h1, h2, h3⟩
theorem Enk.done {w : World} {G n : Nat} {e : Nat → Nat × Nat} (h : Enk w G n n e) : Ens w G n e := by
  obtain ⟨cs, h1, h2, h3, -⟩ := h.blk
  refine ⟨lt_of_row h1, fun j hj => ?_, fun j hj => ?_⟩
  · rw [cell_of_row w G _ cs 114 (0, 0) h1]; exact (h3 j hj).1
  · rw [cell_of_row w G _ cs 114 (0, 0) h1]; exact (h3 j hj).2
theorem Enk.first {w : World} {G n : Nat} (e : Nat → Nat × Nat) (h : w.ownsRow 0 114 2 (.slice (some ⟨G, 0, none⟩) n n) n (madeCells (Value.agg #[I 0, I 0]).cells (n * 2)).toList) : Enk w G n 0 e := by
  rcases h.2 with q | ⟨g, cap, cur, q1, q2, q3, q4, q5, q6, q7⟩
  · cases q.1
  · cases q1
    refine ⟨cur, q3, q6, fun j hj => by omega, fun j hj => ⟨0, ?_⟩⟩
    have h1 : (cur.toList.take (n * 2))[j]? = cur[j]? := by
      rw [List.getElem?_take, if_pos hj]
      simp
    rw [← h1, q7]
    have h2 : (madeCells (Value.agg #[I 0, I 0]).cells (n * 2))[j]? = some (I 0) := by
      show (madeCells #[I 0, I 0] (n * 2))[j]? = some (I 0)
      unfold madeCells
      rw [Array.getElem?_map, Array.getElem?_range, if_pos hj]
      rcases Nat.mod_two_eq_zero_or_one j with q | q
      · simp [q]
      · simp [q]
    simpa using h2
theorem Enk.set {w : World} {G n k : Nat} {e : Nat → Nat × Nat} (h : Enk w G n k e) (hk : k < n) : Enk ((w.setCell ⟨G, k * 2, none⟩ (I (e k).1)).setCell ⟨G, k * 2 + 1, none⟩ (I (e k).2)) G n (k + 1) e ∧ Only (fun j => j = G) w ((w.setCell ⟨G, k * 2, none⟩ (I (e k).1)).setCell ⟨G, k * 2 + 1, none⟩ (I (e k).2)) := by
  obtain ⟨cs, h1, h2, h3, h4⟩ := h.blk
  have r1 := heap_setCell_same w G (k * 2) _ 114 (I (e k).1) h1
  have r2 := heap_setCell_same _ G (k * 2 + 1) _ 114 (I (e k).2) r1
  refine ⟨⟨_, r2, by simpa using h2, fun j hj => ?_, fun j hj => ?_⟩, (Only.setCell w ⟨G, k * 2, none⟩ (I (e k).1)).put ⟨G, k * 2 + 1, none⟩ (I (e k).2) (.inl rfl)⟩
  · simp only [Array.getElem?_setIfInBounds, Array.size_setIfInBounds, h2]
    rcases Nat.lt_or_ge j k with q | q
    · rw [if_neg (by omega), if_neg (by omega), if_neg (by omega), if_neg (by omega)]
      exact h3 j q
    · obtain rfl : j = k := by omega
      rw [if_neg (by omega), if_pos rfl, if_pos (by omega), if_pos rfl, if_pos (by omega)]
      exact ⟨rfl, rfl⟩
  · simp only [Array.getElem?_setIfInBounds, Array.size_setIfInBounds, h2]
    split
    · rw [if_pos (by omega)]; exact ⟨_, rfl⟩
    · split
      · rw [if_pos (by omega)]; exact ⟨_, rfl⟩
      · exact h4 j hj
theorem Enk.facts {w : World} {G n k : Nat} {e : Nat → Nat × Nat} (h : Enk w G n k e) (hk : k < n) : ∃ x y : Int, G < w.heap.size ∧ w.cell? ⟨G, k * 2, none⟩ = some (I x) ∧ w.cell? ⟨G, k * 2 + 1, none⟩ = some (I y) ∧ w.frozen? ⟨G, k * 2, none⟩ = false ∧ w.frozen? ⟨G, k * 2 + 1, none⟩ = false := by
  obtain ⟨cs, h1, h2, h3, h4⟩ := h.blk
  obtain ⟨x, hx⟩ := h4 (k * 2) (by omega)
  obtain ⟨y, hy⟩ := h4 (k * 2 + 1) (by omega)
  exact ⟨x, y, lt_of_row h1, (cell_of_row w G _ cs 114 (0, 0) h1).trans hx, (cell_of_row w G _ cs 114 (0, 0) h1).trans hy, frz h1 _, frz h1 _⟩
/-- A slice, as three. -/
abbrev Sl := Option Addr × Nat × Nat
def agv4 (lf : Bool) (x y z : Sl) : Value := .agg #[.bool lf, .slice x.1 x.2.1 x.2.2, .slice y.1 y.2.1 y.2.2, .slice z.1 z.2.1 z.2.2]
/-- Between two operations of allEnds' region: base Wb, the row G. -/
structure Wae (Wb : World) (G n k : Nat) (e : Nat → Nat × Nat) (L : Nat → Bool) (W : World) : Prop where
  only : Only (fun j => j = G) Wb W
  enk : Enk W G n (if L 8 then k + 1 else k) e
theorem allEnds_gen (lf : Bool) (ka va ia : Option Addr) (m kc vl vc il ic last : Nat) (lx ly lz rx ry rz : Nat → Sl) (e : Nat → Nat × Nat) (w : World) (hlast : last = if lf then m - 1 else m - 2) (hl1 : 1 ≤ last) (hm : m ≤ 4294967296)
    (hS : ∀ i W, 1 ≤ i → i ≤ last → Calls Tryz.prog 66 #[.agg #[.bool lf, .slice ka m kc, .slice va vl vc, .slice ia il ic], I i] W fun r w' => r = .returned (.tuple #[agv4 lf (lx i) (ly i) (lz i), agv4 lf (rx i) (ry i) (rz i)]) ∧ Below W.heap.size W w')
    (hL : ∀ i W, Below w.heap.size w W → 1 ≤ i → i ≤ last → Calls Tryz.prog 43 #[agv4 lf (lx i) (ly i) (lz i)] W fun r w' => r = .returned (I (e (i - 1)).1) ∧ Below W.heap.size W w')
    (hR : ∀ i W, Below w.heap.size w W → 1 ≤ i → i ≤ last → Calls Tryz.prog 43 #[agv4 lf (rx i) (ry i) (rz i)] W fun r w' => r = .returned (I (e (i - 1)).2) ∧ Below W.heap.size W w') :
    Calls Tryz.prog 96 #[.agg #[.bool lf, .slice ka m kc, .slice va vl vc, .slice ia il ic]] w fun r w' => ∃ G, r = .returned (.slice (some ⟨G, 0, none⟩) last last) ∧ Ens w' G last e ∧ Below w.heap.size w w' := by
  have hA := (Below.refl w.heap.size w).alloc (Nat.le_refl _) (.cells #[.bool lf, .slice ka m kc, .slice va vl vc, .slice ia il ic] 25)
  have hg := heap_alloc_new w (.cells #[.bool lf, .slice ka m kc, .slice va vl vc, .slice ia il ic] 25)
  have hs := size_alloc w (.cells #[.bool lf, .slice ka m kc, .slice va vl vc, .slice ia il ic] 25)
  generalize hW1 : w.alloc (.cells #[.bool lf, .slice ka m kc, .slice va vl vc, .slice ia il ic] 25) = W1 at hA hg hs
  have HA := hide hA
  have HG := hide hg
  have HS0 := hide hs
  have hz1 := lt_of_row hg
  have HSd := hide hS
  have HL := hide hL
  have HR := hide hR
  obtain ⟨c0, c1, c2, c3⟩ := box4 hg (Below.refl _ _) hz1
  clear hA hg hs hS hL hR
  go_enter Tryz.func96, Tryz.ntmps96
  go_upto_if 14 with fail
  clear hW1
  go_cut [3] from 15 to 16 (fun s3 wx => s3 = .int .i64 (last : Int) ∧ wx = W1)
  case first =>
    clear HSd HL HR
    cases lf
    · simp only [Bool.false_eq_true, if_false] at hlast
      have hq : IntKind.i64.wrap ((m : Int) - 1 - 1) = (last : Int) := by rw [IntKind.wrap_i64]; omega
      go_wp2
      go_meet
      refine ⟨?_, by first | rfl | trivial⟩
      congr 1
      omega
    · simp only [if_true] at hlast
      go_wp2
      go_meet
      refine ⟨?_, by first | rfl | trivial⟩
      congr 1
      omega
  case rest =>
    obtain ⟨rfl, rfl⟩ := hcut
    have hll : last ≤ 4294967296 := by split at hlast <;> omega
    clear hlast
    go_wp2_with (refine make_own 111 114 (.agg #[I 0, I 0]) 2 16 Tryz.underlying111 info114 rfl (.tmp 17) (.tmp 17) rfl (last : Int) (last : Int) last (by rfl) (by rfl) rfl rfl (by omega) (by omega) ?_; intro w2 r2 b2 l2; have HE0 := hide (Enk.first e r2); have HB0 := hide b2; clear r2 b2)
    generalize hGe : wc.heap.size = G at *
    have HGe := hide hGe
    clear hGe c0 c1 c2 c3
    go_loopw [21] (fun i wr => ∃ k : Nat, k ≤ last ∧ i = .int .i64 k ∧ Enk wr G last k e ∧ Below G wc wr) (fun i _ => last - (Go.RowKit.intOf i).toNat)
    case atStart => exact ⟨0, by omega, rfl, unhide HE0, unhide HB0⟩
    case round =>
      clear HE0 HB0
      obtain ⟨k, hk, rfl, hE, hB⟩ := hrel
      by_cases hlt : k < last
      · have hlt' : (k : Int) < (last : Int) := by omega
        obtain ⟨c0, c1, c2, c3⟩ := box4 (unhide HG) hB (by omega)
        have hGw : G ≤ wr.heap.size := by have := hB.size; have := unhide HGe; omega
        have l1 : w.heap.size < wr.heap.size := by omega
        have HS1 := hide (unhide HSd (k + 1) wr (by omega) (by omega))
        have HL1 := hide (fun W (q : Below w.heap.size w W) => unhide HL (k + 1) W q (by omega) (by omega))
        have HR1 := hide (fun W (q : Below w.heap.size w W) => unhide HR (k + 1) W q (by omega) (by omega))
        simp only [Nat.add_sub_cancel] at HL1 HR1
        have HE := hide hE
        have HB := hide hB
        clear hE hB
        generalize lx (k + 1) = X1 at *
        generalize ly (k + 1) = X2 at *
        generalize lz (k + 1) = X3 at *
        generalize rx (k + 1) = Y1 at *
        generalize ry (k + 1) = Y2 at *
        generalize rz (k + 1) = Y3 at *
        obtain ⟨p1, a1, d1⟩ := X1
        obtain ⟨p2, a2, d2⟩ := X2
        obtain ⟨p3, a3, d3⟩ := X3
        obtain ⟨q1, b1, e1⟩ := Y1
        obtain ⟨q2, b2, e2⟩ := Y2
        obtain ⟨q3, b3, e3⟩ := Y3
        unfold agv4 at HS1 HL1 HR1
        simp only at HS1 HL1 HR1
        rw [show ((k + 1 : Nat) : Int) = (k : Int) + 1 by omega] at HS1
        go_wp2_with fail
        refine (unhide HS1).mono ?_
        rintro r w5 ⟨rfl, b5⟩
        have HB5 := hide b5
        clear b5 c0 c1 c2 c3 l1 HS1
        go_wp2
        have hy0 := heap_alloc_new w5 (.cells #[.bool lf, .slice p1 a1 d1, .slice p2 a2 d2, .slice p3 a3 d3] 25)
        have hsy := size_alloc w5 (.cells #[.bool lf, .slice p1 a1 d1, .slice p2 a2 d2, .slice p3 a3 d3] 25)
        have hby := (Below.refl w5.heap.size w5).alloc (Nat.le_refl _) (.cells #[.bool lf, .slice p1 a1 d1, .slice p2 a2 d2, .slice p3 a3 d3] 25)
        generalize w5.alloc (.cells #[.bool lf, .slice p1 a1 d1, .slice p2 a2 d2, .slice p3 a3 d3] 25) = W6 at hy0 hsy hby ⊢
        have hz0 := heap_alloc_new W6 (.cells #[.bool lf, .slice q1 b1 e1, .slice q2 b2 e2, .slice q3 b3 e3] 25)
        have hy1 := (alloc_old W6 (.cells #[.bool lf, .slice q1 b1 e1, .slice q2 b2 e2, .slice q3 b3 e3] 25) (lt_of_row hy0)).trans hy0
        have hbz := hby.alloc hby.size (.cells #[.bool lf, .slice q1 b1 e1, .slice q2 b2 e2, .slice q3 b3 e3] 25)
        rw [hsy] at hz0
        generalize W6.alloc (.cells #[.bool lf, .slice q1 b1 e1, .slice q2 b2 e2, .slice q3 b3 e3] 25) = Wb at hz0 hy1 hbz ⊢
        have hbb := (unhide HB5).trans (hbz.mono (unhide HB5).size)
        have HEb := hide ((unhide HE).below hbb)
        have hG5 : G < w5.heap.size := by
          obtain ⟨cs, q1, _⟩ := (unhide HE).blk
          exact Nat.lt_of_lt_of_le (lt_of_row q1) (unhide HB5).size
        have hGc := (unhide HB).trans (hbb.mono hGw)
        have HGC := hide hGc
        have HBW := hide ((unhide HA).trans (hGc.mono (show w.heap.size ≤ G by omega)))
        have hGb : G ≤ Wb.heap.size := Nat.le_trans hGw hbb.size
        have HY := hide hy1
        have HZ := hide hz0
        clear hy0 hsy hby hz0 hy1 hbz hbb hGc
        refine rae G w5.heap.size (w5.heap.size + 1) last k a1 a2 a3 b1 b2 b3 d1 d2 d3 e1 e2 e3 (e k).1 (e k).2 p1 p2 p3 q1 q2 q3 lf hlt (by kernel_rfl) (by kernel_rfl) (by kernel_rfl) _ _ (by show 39 ≤ Array.size _; simp) rfl rfl rfl rfl (Wae Wb G last k e) ?_ ?_ ?_ ?_ ?_ ?_ ?_ ?_
        · exact ⟨⟨rfl, rfl, rfl, Nat.le_refl _, fun _ _ _ => rfl⟩, (unhide HEb).below ((Below.refl _ _).drew)⟩
        · intro i hi L W hW
          simp only [List.mem_cons, List.not_mem_nil, or_false, not_or] at hi
          exact ⟨hW.only, by rw [upd_ne (Ne.symm hi.2.2)]; exact hW.enk⟩
        · intro L W hW
          have g := (hW.only.block _ (lt_of_row (unhide HY)) (fun q => by omega)).trans (unhide HY)
          exact box4 g (Below.refl _ _) (lt_of_row g)
        · intro L W hW
          have g := (hW.only.block _ (lt_of_row (unhide HZ)) (fun q => by omega)).trans (unhide HZ)
          exact box4 g (Below.refl _ _) (lt_of_row g)
        · intro L W hW _
          refine (unhide HL1 W (hW.only.below (unhide HBW) (unhide HBW).size (fun j q => by omega))).mono ?_
          rintro r w' ⟨rfl, b⟩
          exact ⟨rfl, hW.only.trans (Only.of_below b) (fun _ _ q => q), by rw [upd_ne (by decide)]; exact hW.enk.below b⟩
        · intro L W hW _
          refine (unhide HR1 W (hW.only.below (unhide HBW) (unhide HBW).size (fun j q => by omega))).mono ?_
          rintro r w' ⟨rfl, b⟩
          exact ⟨rfl, hW.only.trans (Only.of_below b) (fun _ _ q => q), by rw [upd_ne (by decide)]; exact hW.enk.below b⟩
        · intro L W hW h8 _ _
          have hE := hW.enk
          rw [h8] at hE
          obtain ⟨r1, r2⟩ := hE.set hlt
          simp only [Nat.zero_add]
          obtain ⟨cs, g1, g2, -⟩ := hE.blk
          exact ⟨⟨hW.only.trans r2 (fun _ _ q => q), by rw [upd_eq]; exact r1⟩, cs, g1, by omega⟩
        · intro L W hall hW
          have hE := hW.enk
          rw [hall 8 (by omega)] at hE
          have HE9 := hide hE
          have HO := hide hW.only
          clear hE hW hall HL1 HR1
          simp only [Act.put, List.setIfInBounds_toArray, List.set_cons_succ, List.set_cons_zero]
          go_wp2
          go_roundw
          case rel => exact ⟨k + 1, by omega, by go_num, unhide HE9, (unhide HO).below (unhide HGC) hGb (fun j q => by omega)⟩
          case measure => simp [Go.RowKit.intOf]; omega
      · have hlt' : ¬ (k : Int) < (last : Int) := by omega
        obtain rfl : k = last := by omega
        have HE := hide hE.done
        have HB := hide ((unhide HA).trans (hB.mono (show w.heap.size ≤ G by omega)))
        clear hE hB
        go_wp2
        go_ret
        exact ⟨G, rfl, unhide HE, unhide HB⟩
end Go.Proofs.YtllialbdofklgaaGreatDoor
namespace Go.Proofs.YtllialbdofklgaaGreatDoor
open Go.RowKit
set_option maxHeartbeats 16000000
set_option maxRecDepth 8000
theorem place_gen (lf : Bool) (ka va ia : Option Addr) (m kc vl vc il ic last : Nat) (e : Nat → Nat × Nat) (w : World) (h1 : 1 ≤ last) (hl : last ≤ 4294967296)
    (hE : ∀ W, Below w.heap.size w W → Calls Tryz.prog 96 #[.agg #[.bool lf, .slice ka m kc, .slice va vl vc, .slice ia il ic]] W fun r w' => ∃ G, r = .returned (.slice (some ⟨G, 0, none⟩) last last) ∧ Ens w' G last e ∧ Below W.heap.size W w') :
    Calls Tryz.prog 65 #[.agg #[.bool lf, .slice ka m kc, .slice va vl vc, .slice ia il ic]] w fun r w' => ∃ b, b < last ∧ (∀ j, j < last → max (e b).1 (e b).2 ≤ max (e j).1 (e j).2) ∧ (∀ j, j < b → max (e b).1 (e b).2 < max (e j).1 (e j).2) ∧ r = .returned (I (b + 1 : Nat)) ∧ Below w.heap.size w w' := by
  have hA := (Below.refl w.heap.size w).alloc (Nat.le_refl _) (.cells #[.bool lf, .slice ka m kc, .slice va vl vc, .slice ia il ic] 25)
  have hg := heap_alloc_new w (.cells #[.bool lf, .slice ka m kc, .slice va vl vc, .slice ia il ic] 25)
  generalize hW1 : w.alloc (.cells #[.bool lf, .slice ka m kc, .slice va vl vc, .slice ia il ic] 25) = W1 at hA hg
  have HA := hide hA
  have hz1 := lt_of_row hg
  have H1 := hide (hE W1 hA)
  obtain ⟨c0, c1, c2, c3⟩ := box4 hg (Below.refl _ _) hz1
  clear hA hg hE
  go_enter Tryz.func65, Tryz.ntmps65
  go_wp2_with fail
  refine (unhide H1).mono ?_
  rintro r w2 ⟨G, rfl, hE2, b2⟩
  have HB2 := hide ((unhide HA).trans (b2.mono (unhide HA).size))
  have HE2 := hide hE2
  have H2 := hide (minFunc_any G last last e w2 hE2 hl (by omega))
  clear hE2 b2 H1 c0 c1 c2 c3 hW1 hz1 HA
  go_wp2_with fail
  refine (unhide H2).mono ?_
  rintro r w3 ⟨b, hb, hmn, hfs, rfl, b3⟩
  have HMN := hide (And.intro hmn hfs)
  have HE3 := hide ((unhide HE2).below b3)
  have HB3 := hide ((unhide HB2).trans (b3.mono (unhide HB2).size))
  clear hmn hfs b3 H2 HE2 HB2
  go_wp2
  have hMx := heap_alloc_new w3 (.cells #[I (e b).1, I (e b).2] 114)
  have hb4 := (Below.refl w3.heap.size w3).alloc (Nat.le_refl _) (.cells #[I (e b).1, I (e b).2] 114)
  generalize w3.alloc (.cells #[I (e b).1, I (e b).2] 114) = W4 at hMx hb4 ⊢
  have HE4 := hide ((unhide HE3).below hb4)
  have HB4 := hide ((unhide HB3).trans (hb4.mono (unhide HB3).size))
  obtain ⟨x0, x1⟩ := box2 hMx (Below.refl _ _) (lt_of_row hMx)
  have hml := lt_of_row hMx
  clear HE3 HB3 hb4 hMx
  go_loopw [5] (fun i wr => ∃ k q : Nat, k ≤ b ∧ i = .int .i64 k ∧ (∀ j, j < k → e j ≠ e b) ∧ wr = W4.drewN q) (fun i _ => last - (Go.RowKit.intOf i).toNat)
  case atStart => exact ⟨0, 0, by omega, rfl, fun j hj => by omega, rfl⟩
  case round =>
    obtain ⟨k, q, hk, rfl, hne, rfl⟩ := hrel
    have hkl : (k : Int) < (last : Int) := by omega
    have d0 := (unhide HE4).at0 k (by omega)
    have d1 := (unhide HE4).at1 k (by omega)
    have hgl := (unhide HE4).lt
    have HNE := hide hne
    by_cases he : e k = e b
    · have HK := hide he
      rw [he] at d0 d1
      clear hne he
      generalize (e b).1 = z0 at d0 d1 x0 x1 ⊢
      generalize (e b).2 = z1 at d0 d1 x0 x1 ⊢
      go_wp2
      go_region
      all_goals (
        go_wp2
        go_ret
        obtain ⟨hmn, hfs⟩ := unhide HMN
        have he := unhide HK
        refine ⟨k, by omega, fun j hj => by rw [he]; exact hmn j hj, fun j hj => by rw [he]; exact hfs j (by omega), ret_int (by omega), bel_q (unhide HB4) _⟩)
    · have hkb : k < b := by
        rcases Nat.lt_or_ge k b with r | r
        · exact r
        · exact absurd (by rw [show k = b by omega]) he
      have HN2 := hide (show ∀ j, j < k + 1 → e j ≠ e b from fun j hj => by
        rcases Nat.lt_or_ge j k with r | r
        · exact hne j r
        · rw [show j = k by omega]; exact he)
      clear hne
      have HKK := hide (show ¬ ((e k).1 = (e b).1 ∧ (e k).2 = (e b).2) from fun q => he (Prod.ext q.1 q.2))
      clear he
      generalize (e k).1 = y0 at d0 d1 HKK
      generalize (e k).2 = y1 at d0 d1 HKK
      generalize (e b).1 = z0 at x0 x1 HKK ⊢
      generalize (e b).2 = z1 at x0 x1 HKK ⊢
      by_cases h0 : y0 = z0
      · have h2 : ¬ (y1 : Int) = (z1 : Int) := fun q => unhide HKK ⟨h0, by omega⟩
        have h3 : (y0 : Int) = (z0 : Int) := by omega
        clear HKK h0
        go_wp2
        go_region
        all_goals (
          go_wp2
          go_roundw
          case rel => exact ⟨k + 1, q + 1, by omega, by go_num, unhide HN2, by first | rfl | trivial | simp⟩
          case measure => simp [Go.RowKit.intOf]; omega)
      · have h2 : ¬ (y0 : Int) = (z0 : Int) := by omega
        clear HKK h0
        go_wp2
        go_region
        all_goals (
          go_wp2
          go_roundw
          case rel => exact ⟨k + 1, q + 1, by omega, by go_num, unhide HN2, by first | rfl | trivial | simp⟩
          case measure => simp [Go.RowKit.intOf]; omega)
end Go.Proofs.YtllialbdofklgaaGreatDoor
