import Derived.Test.YtjopnhhdemfniaaGreatDoorZrgpn
import Derived.Test.YtjopnhhdemfniaaGreatDoorZqbn
/- A page on its block: pageOn, where it belongs there. -/
namespace Go.Proofs.YtjopnhhdemfniaaGreatDoor
open Go.RowKit
set_option maxHeartbeats 8000000
set_option maxRecDepth 8000
theorem s_eq3 (x y : Operand) (a : Int) {w : World} : (do eqGuard .eql 3 x y (I a) (I a); binOp .eql 3 (I a) (I a) : Sem Value).run Tryz.prog w = .ok (.bool true) w := by
  simp [eqGuard, binOp, go_sem]
theorem s_eq35 (x y : Operand) {w : World} : (do eqGuard .eql 35 x y (I 0) (.int .i64 0); binOp .eql 35 (I 0) (.int .i64 0) : Sem Value).run Tryz.prog w = .ok (.bool true) w := by
  simp [eqGuard, binOp, go_sem]
theorem pageOn_ok {D : Nat} {d : Ds} {vw vl : Value} {w : World} (h : DAt D d vw vl w) (ho : Ok d) (n : Int) (x : Pg) (hr : reachv d n = 0) (hx : prp (readS d n) = (x, 0)) (hn : x.number = n) :
    Calls Tryz.prog 186 #[ptr D, I n] w fun e w' => ∃ q cap, e = .returned (.tuple #[pga x q cap, .bool true]) ∧ w'.ownsRow 0 3 1 (.slice q x.links.length cap) x.links.length (x.links.map fun z => I z) ∧ (∀ k, (Value.slice q x.links.length cap).ownBlock = some k → w.heap.size ≤ k) ∧ Below w.heap.size w w' := by
  have ZB := (Below.refl w.heap.size w).alloc (Nat.le_refl _) (.cells #[I 0, I 0, I 0, .slice none 0 0, S []] 24)
  have Z0 := heap_alloc_new w (.cells #[I 0, I 0, I 0, .slice none 0 0, S []] 24)
  have HRd := hide (read_any (h.below ZB) ho n)
  rw [hr] at HRd
  have HPP := hide (fun W => parsePage_any (readS d n) W)
  rw [hx] at HPP
  have HZB := hide ZB
  have HZ0 := hide Z0
  have hzl := lt_of_row Z0
  obtain ⟨xk, xn, xb, xl, xs⟩ := x
  simp only at hn
  subst hn
  generalize readS d xn = s at *
  clear h ho hr hx ZB Z0
  go_enter Tryz.func186, Tryz.ntmps186
  go_wp2_with fail
  refine (unhide HRd).mono ?_
  rintro e w2 ⟨rfl, b2⟩
  generalize w.alloc (.cells #[I 0, I 0, I 0, .slice none 0 0, S []] 24) = W0 at *
  have HB2 := hide ((unhide HZB).trans (b2.mono (unhide HZB).size))
  have HZ2 := hide ((b2.block _ (lt_of_row (unhide HZ0))).trans (unhide HZ0))
  clear b2 HRd hzl
  go_wp2_with fail
  refine (unhide HPP _).mono ?_
  rintro e w3 ⟨q3, cap3, rfl, r3, n3, b3⟩
  have HB3 := hide ((unhide HB2).trans (b3.mono (unhide HB2).size))
  have HZ3 := hide ((b3.block _ (lt_of_row (unhide HZ2))).trans (unhide HZ2))
  have hzl2 := lt_of_row (unhide HZ2)
  have R3 := hide r3
  have N3 := hide n3
  have HA := hide (heap_alloc_new w3 (.cells #[I 0, I 0, I 0, .slice none 0 0, S []] 24))
  have hs3 := b3.size
  clear r3 n3 b3 HPP HB2
  unfold pga
  simp only at R3 N3 ⊢
  generalize hxl : xl.length = m at *
  have HXL := hide hxl
  clear hxl
  go_wp2_with (refine wp_st24 rfl (.tmp 8) (.tmp 21) rfl w3.heap.size (by rfl) xk xn xb q3 m cap3 xs (by rfl) _ rfl (unhide HA) ?_)
  have hb4 := belowR ((Below.refl w3.heap.size w3).alloc (Nat.le_refl _) (.cells #[I 0, I 0, I 0, .slice none 0 0, S []] 24)) (Nat.le_refl _) #[I xk, I xn, I xb, .slice q3 m cap3, S xs]
  have hx4 := setRow_row (vs := #[I xk, I xn, I xb, .slice q3 m cap3, S xs]) (unhide HA)
  generalize (w3.alloc (.cells #[I 0, I 0, I 0, .slice none 0 0, S []] 24)).setRow w3.heap.size #[I xk, I xn, I xb, .slice q3 m cap3, S xs] = w4 at *
  have HX4 := hide hx4
  have HZ4 := hide ((hb4.block _ (lt_of_row (unhide HZ3))).trans (unhide HZ3))
  have R4 := hide (owns_below (unhide R3) hb4)
  have HB4 := hide ((unhide HB3).trans (hb4.mono (unhide HB3).size))
  have hxz : w3.heap.size ≠ w.heap.size := by have := lt_of_row (unhide HZ3); omega
  clear hb4 hx4 HA HZ3 R3 HB3
  generalize w3.heap.size = X at *
  obtain ⟨Z, hZ⟩ : ∃ Z, Z = w.heap.size := ⟨_, rfl⟩
  rw [← hZ] at HZ4 hxz
  go_upto_region 5 with fail
  rw [← hZ]
  refine rpo5 X Z xn (.agg #[I xk, I xn, I xb, .slice q3 m cap3, S xs]) (by kernel_rfl) (by kernel_rfl) (by kernel_rfl) _ _ (by show 32 ≤ Array.size _; simp) rfl rfl rfl rfl (fun _ L W => Only (fun k => k = Z) w4 W ∧ W.heap[Z]? = some (.cells (if L 9 = true then #[I xk, I xn, I xb, .slice q3 m cap3, S xs] else #[I 0, I 0, I 0, .slice none 0 0, S []]) 24 (0, 0))) ⟨(), Only.drew _ _, unhide HZ4⟩ ?_ ?_ ?_ ?_ ?_ ?_ ?_
  · intro i hi _ L W hW
    simp only [List.mem_cons, List.not_mem_nil, or_false] at hi
    rw [upd_ne (show 9 ≠ i by omega)]
    exact hW
  · intro _ _ W hW _
    exact s_ldr Tryz.isAgg24 Tryz.sizeOf24 ((hW.1.block _ (lt_of_row (unhide HX4)) hxz).trans (unhide HX4)) [I xk, I xn, I xb, .slice q3 m cap3, S xs] rfl rfl
  · exact fun W => s_eq35 _ _
  · intro _ _ W hW _ _
    exact s_ld Tryz.isAgg3 (cell_of_row _ _ 1 _ 24 (0, 0) ((hW.1.block _ (lt_of_row (unhide HX4)) hxz).trans (unhide HX4)))
  · exact fun W => s_eq3 _ _ xn
  · intro _ L W hW h9 _
    have h2 := hW.2
    rw [h9, if_neg (by simp)] at h2
    refine ⟨_, s_sta (o := 0) Tryz.sizeOf24 h2 (.agg #[I xk, I xn, I xb, .slice q3 m cap3, S xs]) rfl (by simp) (by simp [Value.cells, Value.oneCell']), ?_⟩
    refine ⟨hW.1.trans (setRow_Only _ _ _) (fun _ _ e => e), ?_⟩
    rw [upd_self, if_pos rfl, setRow_row h2]
    rfl
  intro _ L W hall hW
  have h2 := hW.2
  rw [hall 9 (by omega), if_pos rfl] at h2
  have HW := hide hW.1
  have HZ5 := hide h2
  clear hW h2 hall
  simp only [Act.put, List.setIfInBounds_toArray, List.set_cons_succ, List.set_cons_zero]
  go_wp2
  have hxl := unhide HXL
  have e5 : #[I xk, I xn, I xb, .slice q3 m cap3, S xs] = pgc ⟨xk, xn, xb, xl, xs⟩ q3 cap3 := by unfold pgc; rw [hxl]
  have h5 := unhide HZ5
  rw [e5] at h5
  have hbW : Below w.heap.size w W := (unhide HW).below (unhide HB4) (unhide HB4).size (fun k e => by rw [e, hZ]; exact Nat.le_refl _)
  refine outP (t := 4) (q := 5) (x := ⟨xk, xn, xb, xl, xs⟩) (r := q3) (cap := cap3) rfl (by rfl) (by rfl) (by rfl) h5 ⟨q3, cap3, ?_, ?_, ?_, hbW⟩
  · rw [← hxl]; rfl
  · rw [hxl]
    exact owns_only (unhide R4) (unhide HW) (fun i hi e => by have := unhide N3 i hi; omega)
  · rw [hxl]
    intro k hk
    have := unhide N3 k hk
    omega
end Go.Proofs.YtjopnhhdemfniaaGreatDoor
