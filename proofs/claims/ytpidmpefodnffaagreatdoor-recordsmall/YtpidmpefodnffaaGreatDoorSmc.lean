import Derived.Test.YtpidmpefodnffaaGreatDoorSmb
import Derived.Deep.Cut
import Derived.Deep.CutRange
namespace Go.Proofs.YtpidmpefodnffaaGreatDoor
open Go.RowKit
set_option maxHeartbeats 8000000
set_option maxRecDepth 20000
/-- Rows that are kept. -/
def Kpr (l : List (Nat × Array Value × TypeId)) (W : World) : Prop := ∀ q, q ∈ l → W.heap[q.1]? = some (.cells q.2.1 q.2.2 (0, 0))
theorem Kpr.below {l : List (Nat × Array Value × TypeId)} {W W' : World} (h : Kpr l W) (hb : Below W.heap.size W W') : Kpr l W' := fun q hq => (hb.block _ (lt_of_row (h q hq))).trans (h q hq)
theorem Kpr.add {l : List (Nat × Array Value × TypeId)} {W : World} (h : Kpr l W) (cs : Array Value) (ty : TypeId) : Kpr ((W.heap.size, cs, ty) :: l) (W.alloc (.cells cs ty)) := fun q hq => by
  rcases List.mem_cons.1 hq with rfl | hq
  · exact heap_alloc_new _ _
  · exact (((Below.refl _ W).alloc (Nat.le_refl _) (.cells cs ty)).block _ (lt_of_row (h q hq))).trans (h q hq)
theorem Kpr.swap {a b : Nat × Array Value × TypeId} {l : List (Nat × Array Value × TypeId)} {W : World} (h : Kpr (a :: b :: l) W) : Kpr (b :: a :: l) W := fun q hq => h q (by
  simp only [List.mem_cons] at hq ⊢
  rcases hq with h | h | h
  · exact .inr (.inl h)
  · exact .inl h
  · exact .inr (.inr h))
theorem Kpr.tail {a : Nat × Array Value × TypeId} {l : List (Nat × Array Value × TypeId)} {W : World} (h : Kpr (a :: l) W) : Kpr l W := fun q hq => h q (List.mem_cons_of_mem _ hq)
theorem Kpr.r0 {a : Nat × Array Value × TypeId} {l : List (Nat × Array Value × TypeId)} {W : World} (h : Kpr (a :: l) W) : W.heap[a.1]? = some (.cells a.2.1 a.2.2 (0, 0)) := h a (List.mem_cons_self ..)
theorem Kpr.set {g : Nat} {cs : Array Value} {ty : TypeId} {l : List (Nat × Array Value × TypeId)} {W : World} (h : Kpr ((g, cs, ty) :: l) W) (hne : ∀ q, q ∈ l → q.1 ≠ g) (vs : Array Value) : Kpr ((g, vs, ty) :: l) (W.setRow g vs) := fun q hq => by
  rcases List.mem_cons.1 hq with rfl | hq
  · exact setRow_row h.r0
  · exact ((setRow_Only W g vs).block _ (lt_of_row (h.tail q hq)) (hne q hq)).trans (h.tail q hq)
theorem bset {w W : World} (h : Below w.heap.size w W) (g : Nat) (hg : w.heap.size < g) (vs : Array Value) : Below w.heap.size w (W.setRow g vs) := (setRow_Only W g vs).below h h.size (fun k e => by omega)
theorem bal {w W : World} (h : Below w.heap.size w W) (o : Obj) : Below w.heap.size w (W.alloc o) := h.alloc h.size o
theorem btr {w W W' : World} (h : Below w.heap.size w W) (hb : Below W.heap.size W W') : Below w.heap.size w W' := h.trans (hb.mono h.size)
theorem ne2 {A C B : Nat} (h1 : A ≠ C) (h2 : B ≠ C) {x y : Array Value × TypeId} : ∀ q, q ∈ [(A, x), (B, y)] → q.1 ≠ C := by
  intro q hq
  simp only [List.mem_cons, List.not_mem_nil, or_false] at hq
  rcases hq with rfl | rfl
  · exact h1
  · exact h2
theorem recordSmall_any (id9 : Int) (fa : Int) (ge : Int) (ha : Bs) (mi : Int) (sp : Bool) (at9 : Int) (ne : Int) (se : Bs) (nu : Int) (se2 : Bs) (fr : Int) (un : Int) (nu3 : Int) (ti : Int) (ki : Int) (fa3 : Int) (wh : Bs) (ba : Int) (ne4 : Int) (bh : Bs) (nh : Bs) (nx : Int) (nw : Int) (w : World) (hwh : wh.length ≤ 9223372036854775807) (hne : ne4 ≤ 9223372036854775807) : Calls Tryz.prog 6 #[.agg #[I id9, I fa, I ge, S ha, I mi, .bool sp, I at9, I ne, S se, I nu, S se2, I fr, I un, I nu3, I ti, I ki, I fa3, S wh, I ba, I ne4, S bh, S nh, I nx, I nw]] w fun e w' => e = .returned (.bool true) ∧ Below w.heap.size w w' := by
  have HA := hide (awake_any (w.alloc (.cells #[I id9, I fa, I ge, S ha, I mi, .bool sp, I at9, I ne, S se, I nu, S se2, I fr, I un, I nu3, I ti, I ki, I fa3, S wh, I ba, I ne4, S bh, S nh, I nx, I nw] 66)))
  have HB0 := hide (show Below w.heap.size w (w.alloc (.cells #[I id9, I fa, I ge, S ha, I mi, .bool sp, I at9, I ne, S se, I nu, S se2, I fr, I un, I nu3, I ti, I ki, I fa3, S wh, I ba, I ne4, S bh, S nh, I nx, I nw] 66)) from (Below.refl _ w).alloc (Nat.le_refl _) _)
  have HK0 := hide (show Kpr [(w.heap.size, #[I id9, I fa, I ge, S ha, I mi, .bool sp, I at9, I ne, S se, I nu, S se2, I fr, I un, I nu3, I ti, I ki, I fa3, S wh, I ba, I ne4, S bh, S nh, I nx, I nw], 66)] (w.alloc (.cells #[I id9, I fa, I ge, S ha, I mi, .bool sp, I at9, I ne, S se, I nu, S se2, I fr, I un, I nu3, I ti, I ki, I fa3, S wh, I ba, I ne4, S bh, S nh, I nx, I nw] 66)) from fun q hq => by rw [List.mem_singleton.1 hq]; exact heap_alloc_new _ _)
  generalize hW0 : (w.alloc (.cells #[I id9, I fa, I ge, S ha, I mi, .bool sp, I at9, I ne, S se, I nu, S se2, I fr, I un, I nu3, I ti, I ki, I fa3, S wh, I ba, I ne4, S bh, S nh, I nx, I nw] 66)) = W0 at *
  obtain ⟨r0x0, r0x1, r0x2, r0x3, r0x4, r0x5, r0x6, r0x7, r0x8, pe0, F0, Y0⟩ := tokQ id9 fa ge ha mi sp at9 ne se
  have HF0 := hide F0
  have HY0 := hide Y0
  clear F0 Y0
  have HP0 := hide (fun W => Print33 id9 fa ge ha mi sp at9 ne se W)
  have HR0 := hide (fun W => rPr34 id9 fa ge ha mi sp at9 ne se W)
  have HO1 := hide (fun W => OfToken_any id9 fa ge ha mi sp at9 ne se W)
  have HO2 := hide (fun W => rOf37 id9 fa ge ha mi sp at9 ne se W)
  generalize ofT id9 fa ge ha mi sp at9 ne se = q9 at *
  obtain ⟨⟨om, on⟩, oe⟩ := q9
  generalize tokP id9 fa ge ha mi sp at9 ne se = p9 at *
  obtain ⟨⟨k0, v0⟩, e0⟩ := p9
  obtain ⟨r1x0, r1x1, r1x2, r1x3, pe1, F1, Y1⟩ := keyQ nu se2 fr un
  have HF1 := hide F1
  have HY1 := hide Y1
  clear F1 Y1
  have HP1 := hide (fun W => Print38 nu se2 fr un W)
  have HR1 := hide (fun W => rPr39 nu se2 fr un W)
  generalize keyP nu se2 fr un = p9 at *
  obtain ⟨⟨k1, v1⟩, e1⟩ := p9
  obtain ⟨r2x0, r2x1, r2x2, r2x3, r2x4, pe2, F2, Y2⟩ := eveQ nu3 ti ki fa3 wh
  have HF2 := hide F2
  have HY2 := hide Y2
  clear F2 Y2
  have HP2 := hide (fun W => Print41 nu3 ti ki fa3 wh W hwh)
  have HR2 := hide (fun W => rPr42 nu3 ti ki fa3 wh W hwh)
  generalize eveP nu3 ti ki fa3 wh = p9 at *
  obtain ⟨⟨k2, v2⟩, e2⟩ := p9
  obtain ⟨r3x0, r3x1, r3x2, r3x3, pe3, F3, Y3⟩ := chaQ ba ne4 bh nh
  have HF3 := hide F3
  have HY3 := hide Y3
  clear F3 Y3
  have HP3 := hide (fun W => Print44 ba ne4 bh nh W hne)
  have HR3 := hide (fun W => rPr45 ba ne4 bh nh W)
  generalize chaP ba ne4 bh nh = p9 at *
  obtain ⟨⟨k3, v3⟩, e3⟩ := p9
  obtain ⟨n0, n1, pe4, F4, Y4⟩ := nteQ nx nw
  have HF4 := hide F4
  have HY4 := hide Y4
  clear F4 Y4
  have HP4 := hide (fun W => Note47 nx nw W)
  have HR4 := hide (fun W => rNote48 nx nw W)
  generalize nteP nx nw = p9 at *
  obtain ⟨k4, e4⟩ := p9
  dsimp only at *
  clear hwh hne
  go_enter Tryz.func6, Tryz.ntmps6
  go_wp2_with fail
  refine (unhide HA).mono ?_
  rintro e w1 ⟨rfl, hb⟩
  have HB1 := hide (btr (unhide HB0) hb)
  have HK1 := hide ((unhide HK0).below hb)
  clear hb HA HB0 HK0 hW0
  have a0 : w1.cell? ⟨w.heap.size, 0, none⟩ = some (I id9) := cellr (unhide HK1).r0 rfl
  have a1 : w1.cell? ⟨w.heap.size, 1, none⟩ = some (I fa) := cellr (unhide HK1).r0 rfl
  have a2 : w1.cell? ⟨w.heap.size, 2, none⟩ = some (I ge) := cellr (unhide HK1).r0 rfl
  have a3 : w1.cell? ⟨w.heap.size, 3, none⟩ = some (S ha) := cellr (unhide HK1).r0 rfl
  have a4 : w1.cell? ⟨w.heap.size, 4, none⟩ = some (I mi) := cellr (unhide HK1).r0 rfl
  have a5 : w1.cell? ⟨w.heap.size, 5, none⟩ = some (.bool sp) := cellr (unhide HK1).r0 rfl
  have a6 : w1.cell? ⟨w.heap.size, 6, none⟩ = some (I at9) := cellr (unhide HK1).r0 rfl
  have a7 : w1.cell? ⟨w.heap.size, 7, none⟩ = some (I ne) := cellr (unhide HK1).r0 rfl
  have a8 : w1.cell? ⟨w.heap.size, 8, none⟩ = some (S se) := cellr (unhide HK1).r0 rfl
  go_wp2_with fail
  refine (unhide HP0 w1).mono ?_
  rintro e w2 ⟨rfl, hb⟩
  have HK2 := hide (((unhide HK1).below hb).add #[S k0, S v0] 30)
  have HB2 := hide (bal (btr (unhide HB1) hb) (.cells #[S k0, S v0] 30))
  have hA : w.heap.size < w2.heap.size := Nat.lt_of_lt_of_le (lt_of_row (unhide HK1).r0) hb.size
  have hAs : (w2.alloc (.cells #[S k0, S v0] 30)).heap.size = w2.heap.size + 1 := by simp
  have NA := hide hA
  have NS := hide hAs
  clear hb HP0 HK1 HB1 hA hAs a0 a1 a2 a3 a4 a5 a6 a7 a8
  generalize hW2 : w2.alloc (.cells #[S k0, S v0] 30) = W2 at *
  have a0 : W2.cell? ⟨w.heap.size, 0, none⟩ = some (I id9) := cellr (unhide HK2).tail.r0 rfl
  have a1 : W2.cell? ⟨w.heap.size, 1, none⟩ = some (I fa) := cellr (unhide HK2).tail.r0 rfl
  have a2 : W2.cell? ⟨w.heap.size, 2, none⟩ = some (I ge) := cellr (unhide HK2).tail.r0 rfl
  have a3 : W2.cell? ⟨w.heap.size, 3, none⟩ = some (S ha) := cellr (unhide HK2).tail.r0 rfl
  have a4 : W2.cell? ⟨w.heap.size, 4, none⟩ = some (I mi) := cellr (unhide HK2).tail.r0 rfl
  have a5 : W2.cell? ⟨w.heap.size, 5, none⟩ = some (.bool sp) := cellr (unhide HK2).tail.r0 rfl
  have a6 : W2.cell? ⟨w.heap.size, 6, none⟩ = some (I at9) := cellr (unhide HK2).tail.r0 rfl
  have a7 : W2.cell? ⟨w.heap.size, 7, none⟩ = some (I ne) := cellr (unhide HK2).tail.r0 rfl
  have a8 : W2.cell? ⟨w.heap.size, 8, none⟩ = some (S se) := cellr (unhide HK2).tail.r0 rfl
  go_wp2_with fail
  refine (unhide HR0 W2).mono ?_
  rintro e w3 ⟨rfl, hb⟩
  have HK3 := hide (((unhide HK2).below hb).add #[S k0, S v0] 30)
  have HB3 := hide (bal (btr (unhide HB2) hb) (.cells #[S k0, S v0] 30))
  have NC := hide (show w2.heap.size < w3.heap.size by have := hb.size; have := unhide NS; omega)
  clear hb HR0 HK2 HB2 hW2 NS a0 a1 a2 a3 a4 a5 a6 a7 a8
  generalize hW3 : w3.alloc (.cells #[S k0, S v0] 30) = W3 at *
  have x0 : W3.cell? ⟨w2.heap.size, 0, none⟩ = some (S k0) := cellr (unhide HK3).tail.r0 rfl
  have x1 : W3.cell? ⟨w2.heap.size, 1, none⟩ = some (S v0) := cellr (unhide HK3).tail.r0 rfl
  go_wp2_with fail
  refine (unhide HY0 W3).mono ?_
  rintro e w4 ⟨rfl, hb⟩
  have HK4 := hide (((unhide HK3).below hb).add #[I r0x0, I r0x1, I r0x2, S r0x3, I r0x4, .bool r0x5, I r0x6, I r0x7, S r0x8] 58)
  have HB4 := hide (bal (btr (unhide HB3) hb) (.cells #[I r0x0, I r0x1, I r0x2, S r0x3, I r0x4, .bool r0x5, I r0x6, I r0x7, S r0x8] 58))
  clear hb HY0 HK3 HB3 hW3 x0 x1
  generalize hW4 : w4.alloc (.cells #[I r0x0, I r0x1, I r0x2, S r0x3, I r0x4, .bool r0x5, I r0x6, I r0x7, S r0x8] 58) = W4 at *
  have a0 : W4.cell? ⟨w.heap.size, 0, none⟩ = some (I id9) := cellr (unhide HK4).tail.tail.tail.r0 rfl
  have a1 : W4.cell? ⟨w.heap.size, 1, none⟩ = some (I fa) := cellr (unhide HK4).tail.tail.tail.r0 rfl
  have a2 : W4.cell? ⟨w.heap.size, 2, none⟩ = some (I ge) := cellr (unhide HK4).tail.tail.tail.r0 rfl
  have a3 : W4.cell? ⟨w.heap.size, 3, none⟩ = some (S ha) := cellr (unhide HK4).tail.tail.tail.r0 rfl
  have a4 : W4.cell? ⟨w.heap.size, 4, none⟩ = some (I mi) := cellr (unhide HK4).tail.tail.tail.r0 rfl
  have a5 : W4.cell? ⟨w.heap.size, 5, none⟩ = some (.bool sp) := cellr (unhide HK4).tail.tail.tail.r0 rfl
  have a6 : W4.cell? ⟨w.heap.size, 6, none⟩ = some (I at9) := cellr (unhide HK4).tail.tail.tail.r0 rfl
  have a7 : W4.cell? ⟨w.heap.size, 7, none⟩ = some (I ne) := cellr (unhide HK4).tail.tail.tail.r0 rfl
  have a8 : W4.cell? ⟨w.heap.size, 8, none⟩ = some (S se) := cellr (unhide HK4).tail.tail.tail.r0 rfl
  go_wp2_with fail
  refine (unhide HO1 W4).mono ?_
  rintro e w5 ⟨rfl, hb⟩
  have HK5 := hide (((unhide HK4).below hb).add #[S om, S on] 30)
  have HB5 := hide (bal (btr (unhide HB4) hb) (.cells #[S om, S on] 30))
  clear hb HO1 HK4 HB4 hW4 a0 a1 a2 a3 a4 a5 a6 a7 a8
  generalize hW5 : w5.alloc (.cells #[S om, S on] 30) = W5 at *
  have a0 : W5.cell? ⟨w.heap.size, 0, none⟩ = some (I id9) := cellr (unhide HK5).tail.tail.tail.tail.r0 rfl
  have a1 : W5.cell? ⟨w.heap.size, 1, none⟩ = some (I fa) := cellr (unhide HK5).tail.tail.tail.tail.r0 rfl
  have a2 : W5.cell? ⟨w.heap.size, 2, none⟩ = some (I ge) := cellr (unhide HK5).tail.tail.tail.tail.r0 rfl
  have a3 : W5.cell? ⟨w.heap.size, 3, none⟩ = some (S ha) := cellr (unhide HK5).tail.tail.tail.tail.r0 rfl
  have a4 : W5.cell? ⟨w.heap.size, 4, none⟩ = some (I mi) := cellr (unhide HK5).tail.tail.tail.tail.r0 rfl
  have a5 : W5.cell? ⟨w.heap.size, 5, none⟩ = some (.bool sp) := cellr (unhide HK5).tail.tail.tail.tail.r0 rfl
  have a6 : W5.cell? ⟨w.heap.size, 6, none⟩ = some (I at9) := cellr (unhide HK5).tail.tail.tail.tail.r0 rfl
  have a7 : W5.cell? ⟨w.heap.size, 7, none⟩ = some (I ne) := cellr (unhide HK5).tail.tail.tail.tail.r0 rfl
  have a8 : W5.cell? ⟨w.heap.size, 8, none⟩ = some (S se) := cellr (unhide HK5).tail.tail.tail.tail.r0 rfl
  go_wp2_with fail
  refine (unhide HO2 W5).mono ?_
  rintro e w6 ⟨rfl, hb⟩
  have HK6 := hide (((unhide HK5).below hb).add #[S om, S on] 30)
  have HB6 := hide (bal (btr (unhide HB5) hb) (.cells #[S om, S on] 30))
  clear hb HO2 HK5 HB5 hW5 a0 a1 a2 a3 a4 a5 a6 a7 a8
  generalize hW6 : w6.alloc (.cells #[S om, S on] 30) = W6 at *
  go_upto_region 7 with fail
  clear hW6
  go_cut [100] from 57 to 100 (fun v wc => v = .bool false ∧ wc = W6)
  case first =>
    have KK := unhide HK6
    have zn0 : W6.cell? ⟨w6.heap.size, 0, none⟩ = some (S om) := cellr KK.r0 rfl
    have zn1 : W6.cell? ⟨w6.heap.size, 1, none⟩ = some (S on) := cellr KK.r0 rfl
    have zm0 : W6.cell? ⟨w5.heap.size, 0, none⟩ = some (S om) := cellr KK.tail.r0 rfl
    have zm1 : W6.cell? ⟨w5.heap.size, 1, none⟩ = some (S on) := cellr KK.tail.r0 rfl
    have zt0 : W6.cell? ⟨w4.heap.size, 0, none⟩ = some (I r0x0) := cellr KK.tail.tail.r0 rfl
    have zt1 : W6.cell? ⟨w4.heap.size, 1, none⟩ = some (I r0x1) := cellr KK.tail.tail.r0 rfl
    have zt2 : W6.cell? ⟨w4.heap.size, 2, none⟩ = some (I r0x2) := cellr KK.tail.tail.r0 rfl
    have zt3 : W6.cell? ⟨w4.heap.size, 3, none⟩ = some (S r0x3) := cellr KK.tail.tail.r0 rfl
    have zt4 : W6.cell? ⟨w4.heap.size, 4, none⟩ = some (I r0x4) := cellr KK.tail.tail.r0 rfl
    have zt5 : W6.cell? ⟨w4.heap.size, 5, none⟩ = some (.bool r0x5) := cellr KK.tail.tail.r0 rfl
    have zt6 : W6.cell? ⟨w4.heap.size, 6, none⟩ = some (I r0x6) := cellr KK.tail.tail.r0 rfl
    have zt7 : W6.cell? ⟨w4.heap.size, 7, none⟩ = some (I r0x7) := cellr KK.tail.tail.r0 rfl
    have zt8 : W6.cell? ⟨w4.heap.size, 8, none⟩ = some (S r0x8) := cellr KK.tail.tail.r0 rfl
    have zc0 : W6.cell? ⟨w3.heap.size, 0, none⟩ = some (S k0) := cellr KK.tail.tail.tail.r0 rfl
    have zc1 : W6.cell? ⟨w3.heap.size, 1, none⟩ = some (S v0) := cellr KK.tail.tail.tail.r0 rfl
    have zx0 : W6.cell? ⟨w2.heap.size, 0, none⟩ = some (S k0) := cellr KK.tail.tail.tail.tail.r0 rfl
    have zx1 : W6.cell? ⟨w2.heap.size, 1, none⟩ = some (S v0) := cellr KK.tail.tail.tail.tail.r0 rfl
    have a0 : W6.cell? ⟨w.heap.size, 0, none⟩ = some (I id9) := cellr KK.tail.tail.tail.tail.tail.r0 rfl
    have a1 : W6.cell? ⟨w.heap.size, 1, none⟩ = some (I fa) := cellr KK.tail.tail.tail.tail.tail.r0 rfl
    have a2 : W6.cell? ⟨w.heap.size, 2, none⟩ = some (I ge) := cellr KK.tail.tail.tail.tail.tail.r0 rfl
    have a3 : W6.cell? ⟨w.heap.size, 3, none⟩ = some (S ha) := cellr KK.tail.tail.tail.tail.tail.r0 rfl
    have a4 : W6.cell? ⟨w.heap.size, 4, none⟩ = some (I mi) := cellr KK.tail.tail.tail.tail.tail.r0 rfl
    have a5 : W6.cell? ⟨w.heap.size, 5, none⟩ = some (.bool sp) := cellr KK.tail.tail.tail.tail.tail.r0 rfl
    have a6 : W6.cell? ⟨w.heap.size, 6, none⟩ = some (I at9) := cellr KK.tail.tail.tail.tail.tail.r0 rfl
    have a7 : W6.cell? ⟨w.heap.size, 7, none⟩ = some (I ne) := cellr KK.tail.tail.tail.tail.tail.r0 rfl
    have a8 : W6.cell? ⟨w.heap.size, 8, none⟩ = some (S se) := cellr KK.tail.tail.tail.tail.tail.r0 rfl
    have f1 := ne30s k0 v0
    have f2 := ne30s om on
    clear KK HK6 HB6 NA NC HP1 HR1 HY1 HF1 HP2 HR2 HY2 HF2 HP3 HR3 HY3 HF3 HP4 HR4 HY4 HF4
    rcases unhide HF0 with ⟨rfl, rfl, rfl, rfl, rfl, rfl, rfl, rfl, rfl, rfl, rfl⟩ | ⟨rfl, rfl⟩
    · have f3 := ne58s r0x0 r0x1 r0x2 r0x3 r0x4 r0x5 r0x6 r0x7 r0x8
      clear HF0
      go_wp2
      go_meet
      exact ⟨rfl, rfl⟩
    · clear HF0
      go_wp2
      go_meet
      exact ⟨rfl, rfl⟩
  case rest =>
  obtain ⟨rfl, hwc⟩ := hcut
  rw [hwc]
  clear hwc HF0
  have HK := hide (unhide HK6).tail.tail.tail.swap
  have HB := hide (unhide HB6)
  clear HK6 HB6
  generalize w2.heap.size = A at *
  generalize w3.heap.size = C at *
  have a0 : W6.cell? ⟨w.heap.size, 9, none⟩ = some (I nu) := cellr (unhide HK).tail.tail.r0 rfl
  have a1 : W6.cell? ⟨w.heap.size, 10, none⟩ = some (S se2) := cellr (unhide HK).tail.tail.r0 rfl
  have a2 : W6.cell? ⟨w.heap.size, 11, none⟩ = some (I fr) := cellr (unhide HK).tail.tail.r0 rfl
  have a3 : W6.cell? ⟨w.heap.size, 12, none⟩ = some (I un) := cellr (unhide HK).tail.tail.r0 rfl
  go_wp2_with fail
  refine (unhide HP1 W6).mono ?_
  rintro e u1a ⟨rfl, hb⟩
  have hrA : u1a.heap[A]? = some (.cells #[S k0, S v0] 30 (0, 0)) := ((unhide HK).below hb).r0
  have HKa := hide (((unhide HK).below hb).set (ne2 (Nat.ne_of_gt (unhide NC)) (Nat.ne_of_lt (unhide NA))) #[S k1, S v1])
  have HBa := hide (bset (btr (unhide HB) hb) A (unhide NA) #[S k1, S v1])
  have HrA := hide hrA
  clear hb HP1 HK HB hrA a0 a1 a2 a3
  have a0 : (u1a.setRow A #[S k1, S v1]).cell? ⟨w.heap.size, 9, none⟩ = some (I nu) := cellr (unhide HKa).tail.tail.r0 rfl
  have a1 : (u1a.setRow A #[S k1, S v1]).cell? ⟨w.heap.size, 10, none⟩ = some (S se2) := cellr (unhide HKa).tail.tail.r0 rfl
  have a2 : (u1a.setRow A #[S k1, S v1]).cell? ⟨w.heap.size, 11, none⟩ = some (I fr) := cellr (unhide HKa).tail.tail.r0 rfl
  have a3 : (u1a.setRow A #[S k1, S v1]).cell? ⟨w.heap.size, 12, none⟩ = some (I un) := cellr (unhide HKa).tail.tail.r0 rfl
  go_wp2_with (refine wp_st30 rfl (.tmp 4) (.tmp 105) rfl A (by rfl) k1 v1 (by rfl) #[S k0, S v0] rfl (unhide HrA) ?_)
  refine (unhide HR1 (u1a.setRow A #[S k1, S v1])).mono ?_
  rintro e u1b ⟨rfl, hb⟩
  have hrC : u1b.heap[C]? = some (.cells #[S k0, S v0] 30 (0, 0)) := ((unhide HKa).below hb).tail.r0
  have HKb := hide (((unhide HKa).below hb).swap.set (ne2 (Nat.ne_of_lt (unhide NC)) (Nat.ne_of_lt (Nat.lt_trans (unhide NA) (unhide NC)))) #[S k1, S v1])
  have HBb := hide (bset (btr (unhide HBa) hb) C (Nat.lt_trans (unhide NA) (unhide NC)) #[S k1, S v1])
  have HrC := hide hrC
  clear hb HR1 HKa HBa hrC HrA a0 a1 a2 a3
  have x0 : (u1b.setRow C #[S k1, S v1]).cell? ⟨A, 0, none⟩ = some (S k1) := cellr (unhide HKb).tail.r0 rfl
  have x1 : (u1b.setRow C #[S k1, S v1]).cell? ⟨A, 1, none⟩ = some (S v1) := cellr (unhide HKb).tail.r0 rfl
  go_wp2_with (refine wp_st30 rfl (.tmp 6) (.tmp 111) rfl C (by rfl) k1 v1 (by rfl) #[S k0, S v0] rfl (unhide HrC) ?_)
  refine (unhide HY1 (u1b.setRow C #[S k1, S v1])).mono ?_
  rintro e u1c ⟨rfl, hb⟩
  have HKc := hide (((unhide HKb).below hb).add #[I r1x0, S r1x1, I r1x2, I r1x3] 60)
  have HBc := hide (bal (btr (unhide HBb) hb) (.cells #[I r1x0, S r1x1, I r1x2, I r1x3] 60))
  clear hb HY1 HKb HBb HrC x0 x1
  generalize hU1 : u1c.alloc (.cells #[I r1x0, S r1x1, I r1x2, I r1x3] 60) = U1 at *
  go_upto_region 12 with fail
  clear hU1
  go_cut [147] from 118 to 147 (fun v wc => v = .bool false ∧ wc = U1)
  case first =>
    have KK := unhide HKc
    have zt0 : U1.cell? ⟨u1c.heap.size, 0, none⟩ = some (I r1x0) := cellr KK.r0 rfl
    have zt1 : U1.cell? ⟨u1c.heap.size, 1, none⟩ = some (S r1x1) := cellr KK.r0 rfl
    have zt2 : U1.cell? ⟨u1c.heap.size, 2, none⟩ = some (I r1x2) := cellr KK.r0 rfl
    have zt3 : U1.cell? ⟨u1c.heap.size, 3, none⟩ = some (I r1x3) := cellr KK.r0 rfl
    have zc0 : U1.cell? ⟨C, 0, none⟩ = some (S k1) := cellr KK.tail.r0 rfl
    have zc1 : U1.cell? ⟨C, 1, none⟩ = some (S v1) := cellr KK.tail.r0 rfl
    have zx0 : U1.cell? ⟨A, 0, none⟩ = some (S k1) := cellr KK.tail.tail.r0 rfl
    have zx1 : U1.cell? ⟨A, 1, none⟩ = some (S v1) := cellr KK.tail.tail.r0 rfl
    have a0 : U1.cell? ⟨w.heap.size, 9, none⟩ = some (I nu) := cellr KK.tail.tail.tail.r0 rfl
    have a1 : U1.cell? ⟨w.heap.size, 10, none⟩ = some (S se2) := cellr KK.tail.tail.tail.r0 rfl
    have a2 : U1.cell? ⟨w.heap.size, 11, none⟩ = some (I fr) := cellr KK.tail.tail.tail.r0 rfl
    have a3 : U1.cell? ⟨w.heap.size, 12, none⟩ = some (I un) := cellr KK.tail.tail.tail.r0 rfl
    have f1 := ne30s k1 v1
    clear KK HKc HBc NA NC HP2 HR2 HY2 HF2 HP3 HR3 HY3 HF3 HP4 HR4 HY4 HF4
    rcases unhide HF1 with ⟨rfl, rfl, rfl, rfl, rfl, rfl⟩ | ⟨rfl, rfl⟩
    · have f3 := ne60s r1x0 r1x1 r1x2 r1x3
      clear HF1
      go_wp2
      go_meet
      exact ⟨rfl, rfl⟩
    · clear HF1
      go_wp2
      go_meet
      exact ⟨rfl, rfl⟩
  case rest =>
  obtain ⟨rfl, hwc⟩ := hcut
  rw [hwc]
  clear hwc HF1
  have HK := hide (unhide HKc).tail.swap
  have HB := hide (unhide HBc)
  clear HKc HBc
  have a0 : U1.cell? ⟨w.heap.size, 13, none⟩ = some (I nu3) := cellr (unhide HK).tail.tail.r0 rfl
  have a1 : U1.cell? ⟨w.heap.size, 14, none⟩ = some (I ti) := cellr (unhide HK).tail.tail.r0 rfl
  have a2 : U1.cell? ⟨w.heap.size, 15, none⟩ = some (I ki) := cellr (unhide HK).tail.tail.r0 rfl
  have a3 : U1.cell? ⟨w.heap.size, 16, none⟩ = some (I fa3) := cellr (unhide HK).tail.tail.r0 rfl
  have a4 : U1.cell? ⟨w.heap.size, 17, none⟩ = some (S wh) := cellr (unhide HK).tail.tail.r0 rfl
  go_wp2_with fail
  refine (unhide HP2 U1).mono ?_
  rintro e u2a ⟨rfl, hb⟩
  have hrA : u2a.heap[A]? = some (.cells #[S k1, S v1] 30 (0, 0)) := ((unhide HK).below hb).r0
  have HKa := hide (((unhide HK).below hb).set (ne2 (Nat.ne_of_gt (unhide NC)) (Nat.ne_of_lt (unhide NA))) #[S k2, S v2])
  have HBa := hide (bset (btr (unhide HB) hb) A (unhide NA) #[S k2, S v2])
  have HrA := hide hrA
  clear hb HP2 HK HB hrA a0 a1 a2 a3 a4
  have a0 : (u2a.setRow A #[S k2, S v2]).cell? ⟨w.heap.size, 13, none⟩ = some (I nu3) := cellr (unhide HKa).tail.tail.r0 rfl
  have a1 : (u2a.setRow A #[S k2, S v2]).cell? ⟨w.heap.size, 14, none⟩ = some (I ti) := cellr (unhide HKa).tail.tail.r0 rfl
  have a2 : (u2a.setRow A #[S k2, S v2]).cell? ⟨w.heap.size, 15, none⟩ = some (I ki) := cellr (unhide HKa).tail.tail.r0 rfl
  have a3 : (u2a.setRow A #[S k2, S v2]).cell? ⟨w.heap.size, 16, none⟩ = some (I fa3) := cellr (unhide HKa).tail.tail.r0 rfl
  have a4 : (u2a.setRow A #[S k2, S v2]).cell? ⟨w.heap.size, 17, none⟩ = some (S wh) := cellr (unhide HKa).tail.tail.r0 rfl
  go_wp2_with (refine wp_st30 rfl (.tmp 4) (.tmp 152) rfl A (by rfl) k2 v2 (by rfl) #[S k1, S v1] rfl (unhide HrA) ?_)
  refine (unhide HR2 (u2a.setRow A #[S k2, S v2])).mono ?_
  rintro e u2b ⟨rfl, hb⟩
  have hrC : u2b.heap[C]? = some (.cells #[S k1, S v1] 30 (0, 0)) := ((unhide HKa).below hb).tail.r0
  have HKb := hide (((unhide HKa).below hb).swap.set (ne2 (Nat.ne_of_lt (unhide NC)) (Nat.ne_of_lt (Nat.lt_trans (unhide NA) (unhide NC)))) #[S k2, S v2])
  have HBb := hide (bset (btr (unhide HBa) hb) C (Nat.lt_trans (unhide NA) (unhide NC)) #[S k2, S v2])
  have HrC := hide hrC
  clear hb HR2 HKa HBa hrC HrA a0 a1 a2 a3 a4
  have x0 : (u2b.setRow C #[S k2, S v2]).cell? ⟨A, 0, none⟩ = some (S k2) := cellr (unhide HKb).tail.r0 rfl
  have x1 : (u2b.setRow C #[S k2, S v2]).cell? ⟨A, 1, none⟩ = some (S v2) := cellr (unhide HKb).tail.r0 rfl
  go_wp2_with (refine wp_st30 rfl (.tmp 6) (.tmp 158) rfl C (by rfl) k2 v2 (by rfl) #[S k1, S v1] rfl (unhide HrC) ?_)
  refine (unhide HY2 (u2b.setRow C #[S k2, S v2])).mono ?_
  rintro e u2c ⟨rfl, hb⟩
  have HKc := hide (((unhide HKb).below hb).add #[I r2x0, I r2x1, I r2x2, I r2x3, S r2x4] 62)
  have HBc := hide (bal (btr (unhide HBb) hb) (.cells #[I r2x0, I r2x1, I r2x2, I r2x3, S r2x4] 62))
  clear hb HY2 HKb HBb HrC x0 x1
  generalize hU2 : u2c.alloc (.cells #[I r2x0, I r2x1, I r2x2, I r2x3, S r2x4] 62) = U2 at *
  go_upto_region 17 with fail
  clear hU2
  go_cut [194] from 165 to 194 (fun v wc => v = .bool false ∧ wc = U2)
  case first =>
    have KK := unhide HKc
    have zt0 : U2.cell? ⟨u2c.heap.size, 0, none⟩ = some (I r2x0) := cellr KK.r0 rfl
    have zt1 : U2.cell? ⟨u2c.heap.size, 1, none⟩ = some (I r2x1) := cellr KK.r0 rfl
    have zt2 : U2.cell? ⟨u2c.heap.size, 2, none⟩ = some (I r2x2) := cellr KK.r0 rfl
    have zt3 : U2.cell? ⟨u2c.heap.size, 3, none⟩ = some (I r2x3) := cellr KK.r0 rfl
    have zt4 : U2.cell? ⟨u2c.heap.size, 4, none⟩ = some (S r2x4) := cellr KK.r0 rfl
    have zc0 : U2.cell? ⟨C, 0, none⟩ = some (S k2) := cellr KK.tail.r0 rfl
    have zc1 : U2.cell? ⟨C, 1, none⟩ = some (S v2) := cellr KK.tail.r0 rfl
    have zx0 : U2.cell? ⟨A, 0, none⟩ = some (S k2) := cellr KK.tail.tail.r0 rfl
    have zx1 : U2.cell? ⟨A, 1, none⟩ = some (S v2) := cellr KK.tail.tail.r0 rfl
    have a0 : U2.cell? ⟨w.heap.size, 13, none⟩ = some (I nu3) := cellr KK.tail.tail.tail.r0 rfl
    have a1 : U2.cell? ⟨w.heap.size, 14, none⟩ = some (I ti) := cellr KK.tail.tail.tail.r0 rfl
    have a2 : U2.cell? ⟨w.heap.size, 15, none⟩ = some (I ki) := cellr KK.tail.tail.tail.r0 rfl
    have a3 : U2.cell? ⟨w.heap.size, 16, none⟩ = some (I fa3) := cellr KK.tail.tail.tail.r0 rfl
    have a4 : U2.cell? ⟨w.heap.size, 17, none⟩ = some (S wh) := cellr KK.tail.tail.tail.r0 rfl
    have f1 := ne30s k2 v2
    clear KK HKc HBc NA NC HP3 HR3 HY3 HF3 HP4 HR4 HY4 HF4
    rcases unhide HF2 with ⟨rfl, rfl, rfl, rfl, rfl, rfl, rfl⟩ | ⟨rfl, rfl⟩
    · have f3 := ne62s r2x0 r2x1 r2x2 r2x3 r2x4
      clear HF2
      go_wp2
      go_meet
      exact ⟨rfl, rfl⟩
    · clear HF2
      go_wp2
      go_meet
      exact ⟨rfl, rfl⟩
  case rest =>
  obtain ⟨rfl, hwc⟩ := hcut
  rw [hwc]
  clear hwc HF2
  have HK := hide (unhide HKc).tail.swap
  have HB := hide (unhide HBc)
  clear HKc HBc
  have a0 : U2.cell? ⟨w.heap.size, 18, none⟩ = some (I ba) := cellr (unhide HK).tail.tail.r0 rfl
  have a1 : U2.cell? ⟨w.heap.size, 19, none⟩ = some (I ne4) := cellr (unhide HK).tail.tail.r0 rfl
  have a2 : U2.cell? ⟨w.heap.size, 20, none⟩ = some (S bh) := cellr (unhide HK).tail.tail.r0 rfl
  have a3 : U2.cell? ⟨w.heap.size, 21, none⟩ = some (S nh) := cellr (unhide HK).tail.tail.r0 rfl
  go_wp2_with fail
  refine (unhide HP3 U2).mono ?_
  rintro e u3a ⟨rfl, hb⟩
  have hrA : u3a.heap[A]? = some (.cells #[S k2, S v2] 30 (0, 0)) := ((unhide HK).below hb).r0
  have HKa := hide (((unhide HK).below hb).set (ne2 (Nat.ne_of_gt (unhide NC)) (Nat.ne_of_lt (unhide NA))) #[S k3, S v3])
  have HBa := hide (bset (btr (unhide HB) hb) A (unhide NA) #[S k3, S v3])
  have HrA := hide hrA
  clear hb HP3 HK HB hrA a0 a1 a2 a3
  have a0 : (u3a.setRow A #[S k3, S v3]).cell? ⟨w.heap.size, 18, none⟩ = some (I ba) := cellr (unhide HKa).tail.tail.r0 rfl
  have a1 : (u3a.setRow A #[S k3, S v3]).cell? ⟨w.heap.size, 19, none⟩ = some (I ne4) := cellr (unhide HKa).tail.tail.r0 rfl
  have a2 : (u3a.setRow A #[S k3, S v3]).cell? ⟨w.heap.size, 20, none⟩ = some (S bh) := cellr (unhide HKa).tail.tail.r0 rfl
  have a3 : (u3a.setRow A #[S k3, S v3]).cell? ⟨w.heap.size, 21, none⟩ = some (S nh) := cellr (unhide HKa).tail.tail.r0 rfl
  go_wp2_with (refine wp_st30 rfl (.tmp 4) (.tmp 199) rfl A (by rfl) k3 v3 (by rfl) #[S k2, S v2] rfl (unhide HrA) ?_)
  refine (unhide HR3 (u3a.setRow A #[S k3, S v3])).mono ?_
  rintro e u3b ⟨rfl, hb⟩
  have hrC : u3b.heap[C]? = some (.cells #[S k2, S v2] 30 (0, 0)) := ((unhide HKa).below hb).tail.r0
  have HKb := hide (((unhide HKa).below hb).swap.set (ne2 (Nat.ne_of_lt (unhide NC)) (Nat.ne_of_lt (Nat.lt_trans (unhide NA) (unhide NC)))) #[S k3, S v3])
  have HBb := hide (bset (btr (unhide HBa) hb) C (Nat.lt_trans (unhide NA) (unhide NC)) #[S k3, S v3])
  have HrC := hide hrC
  clear hb HR3 HKa HBa hrC HrA a0 a1 a2 a3
  have x0 : (u3b.setRow C #[S k3, S v3]).cell? ⟨A, 0, none⟩ = some (S k3) := cellr (unhide HKb).tail.r0 rfl
  have x1 : (u3b.setRow C #[S k3, S v3]).cell? ⟨A, 1, none⟩ = some (S v3) := cellr (unhide HKb).tail.r0 rfl
  go_wp2_with (refine wp_st30 rfl (.tmp 6) (.tmp 205) rfl C (by rfl) k3 v3 (by rfl) #[S k2, S v2] rfl (unhide HrC) ?_)
  refine (unhide HY3 (u3b.setRow C #[S k3, S v3])).mono ?_
  rintro e u3c ⟨rfl, hb⟩
  have HKc := hide (((unhide HKb).below hb).add #[I r3x0, I r3x1, S r3x2, S r3x3] 64)
  have HBc := hide (bal (btr (unhide HBb) hb) (.cells #[I r3x0, I r3x1, S r3x2, S r3x3] 64))
  clear hb HY3 HKb HBb HrC x0 x1
  generalize hU3 : u3c.alloc (.cells #[I r3x0, I r3x1, S r3x2, S r3x3] 64) = U3 at *
  go_upto_region 22 with fail
  clear hU3
  go_cut [241] from 212 to 241 (fun v wc => v = .bool false ∧ wc = U3)
  case first =>
    have KK := unhide HKc
    have zt0 : U3.cell? ⟨u3c.heap.size, 0, none⟩ = some (I r3x0) := cellr KK.r0 rfl
    have zt1 : U3.cell? ⟨u3c.heap.size, 1, none⟩ = some (I r3x1) := cellr KK.r0 rfl
    have zt2 : U3.cell? ⟨u3c.heap.size, 2, none⟩ = some (S r3x2) := cellr KK.r0 rfl
    have zt3 : U3.cell? ⟨u3c.heap.size, 3, none⟩ = some (S r3x3) := cellr KK.r0 rfl
    have zc0 : U3.cell? ⟨C, 0, none⟩ = some (S k3) := cellr KK.tail.r0 rfl
    have zc1 : U3.cell? ⟨C, 1, none⟩ = some (S v3) := cellr KK.tail.r0 rfl
    have zx0 : U3.cell? ⟨A, 0, none⟩ = some (S k3) := cellr KK.tail.tail.r0 rfl
    have zx1 : U3.cell? ⟨A, 1, none⟩ = some (S v3) := cellr KK.tail.tail.r0 rfl
    have a0 : U3.cell? ⟨w.heap.size, 18, none⟩ = some (I ba) := cellr KK.tail.tail.tail.r0 rfl
    have a1 : U3.cell? ⟨w.heap.size, 19, none⟩ = some (I ne4) := cellr KK.tail.tail.tail.r0 rfl
    have a2 : U3.cell? ⟨w.heap.size, 20, none⟩ = some (S bh) := cellr KK.tail.tail.tail.r0 rfl
    have a3 : U3.cell? ⟨w.heap.size, 21, none⟩ = some (S nh) := cellr KK.tail.tail.tail.r0 rfl
    have f1 := ne30s k3 v3
    clear KK HKc HBc NA NC HP4 HR4 HY4 HF4
    rcases unhide HF3 with ⟨rfl, rfl, rfl, rfl, rfl, rfl⟩ | ⟨rfl, rfl⟩
    · have f3 := ne64s r3x0 r3x1 r3x2 r3x3
      clear HF3
      go_wp2
      go_meet
      exact ⟨rfl, rfl⟩
    · clear HF3
      go_wp2
      go_meet
      exact ⟨rfl, rfl⟩
  case rest =>
  obtain ⟨rfl, hwc⟩ := hcut
  rw [hwc]
  clear hwc HF3
  have HK := hide (unhide HKc).tail.swap
  have HB := hide (unhide HBc)
  clear HKc HBc
  have a0 : U3.cell? ⟨w.heap.size, 22, none⟩ = some (I nx) := cellr (unhide HK).tail.tail.r0 rfl
  have a1 : U3.cell? ⟨w.heap.size, 23, none⟩ = some (I nw) := cellr (unhide HK).tail.tail.r0 rfl
  go_wp2_with fail
  refine (unhide HP4 U3).mono ?_
  rintro e y1 ⟨rfl, hb⟩
  have HK1 := hide ((unhide HK).below hb)
  have HB1 := hide (btr (unhide HB) hb)
  clear hb HP4 HK HB a0 a1
  have a0 : y1.cell? ⟨w.heap.size, 22, none⟩ = some (I nx) := cellr (unhide HK1).tail.tail.r0 rfl
  have a1 : y1.cell? ⟨w.heap.size, 23, none⟩ = some (I nw) := cellr (unhide HK1).tail.tail.r0 rfl
  go_wp2_with fail
  refine (unhide HR4 y1).mono ?_
  rintro e y2 ⟨rfl, hb⟩
  have HK2 := hide ((unhide HK1).below hb)
  have HB2 := hide (btr (unhide HB1) hb)
  clear hb HR4 HK1 HB1 a0 a1
  go_wp2_with fail
  refine (unhide HY4 y2).mono ?_
  rintro e y3 ⟨rfl, hb⟩
  have HK3 := hide ((unhide HK2).below hb)
  have HB3 := hide (btr (unhide HB2) hb)
  clear hb HY4 HK2 HB2
  have a0 : y3.cell? ⟨w.heap.size, 22, none⟩ = some (I nx) := cellr (unhide HK3).tail.tail.r0 rfl
  have a1 : y3.cell? ⟨w.heap.size, 23, none⟩ = some (I nw) := cellr (unhide HK3).tail.tail.r0 rfl
  clear HK3 NA NC
  rcases unhide HF4 with ⟨rfl, rfl, rfl, rfl⟩ | ⟨rfl, rfl⟩
  · clear HF4
    go_wp2
    go_ret
    exact ⟨rfl, unhide HB3⟩
  · clear HF4
    go_wp2
    go_ret
    exact ⟨rfl, unhide HB3⟩
end Go.Proofs.YtpidmpefodnffaaGreatDoor
