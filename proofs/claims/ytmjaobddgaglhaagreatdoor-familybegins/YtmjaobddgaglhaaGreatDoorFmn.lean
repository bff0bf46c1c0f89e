import Derived.Test.YtmjaobddgaglhaaGreatDoorFmk
import Derived.Test.YtmjaobddgaglhaaGreatDoorFml
import Derived.Test.YtmjaobddgaglhaaGreatDoorZsmc
import Derived.Deep.Cut
import Derived.Deep.CutRange
/- FamilyBegins. -/
namespace Go.Proofs.YtmjaobddgaglhaaGreatDoor
open Go.RowKit Go.Lib
set_option maxHeartbeats 8000000
set_option maxRecDepth 20000
theorem ne26s (a b c : Int) (d : Bs) (e : Int) (f : Bool) (g h : Int) (i : Bs) (W : World) : (binOp .neq 26 (.agg #[I a, I b, I c, S d, I e, .bool f, I g, I h, S i]) (.agg #[I a, I b, I c, S d, I e, .bool f, I g, I h, S i])).run Tryz.prog W = .ok (.bool false) W := by
  simp [go_sem]
theorem wp_run {ops : Array Oper} {rest : List Oper} {o : Oper} {a : Act} {w w' : World} {r : Value} {Q : Exit → Act → World → Prop} (hgd : o.guard = none) (he : (execOp a.eval o).run Tryz.prog w = .ok (.value r) w') (h : wpList Tryz.prog ops Q rest (a.put o.dst r) w') : wpList Tryz.prog ops Q (o :: rest) a w := by
  refine wpList_plain hgd fun K hK => ?_
  unfold Oper.wp
  rw [he]
  exact hK _ _ h
theorem part_sub {l vs : List Value} {o n i m : Nat} (h : (l.drop o).take n = vs) (him : i + m ≤ n) : (l.drop (o + i)).take m = (vs.drop i).take m := by
  rw [← h, List.drop_take, List.take_take, List.drop_drop, Nat.min_eq_left (by omega)]
theorem own_ne {B : Nat} {W : World} {v : Value} {u : List Bs} (h : OwnS B W v u) {b : Nat} (hb : b < B) : v.ownBlock ≠ some b := fun e => by
  have := (World.ownsRow.lt h b e).1
  omega
theorem own_ne2 {B : Nat} {W : World} {v : Value} {u : List Bs} (h : OwnS B W v u) {b : Nat} {cs : Array Value} {t : TypeId} (hr : W.heap[b]? = some (.cells cs t (0, 0))) (ht : t ≠ 9) : v.ownBlock ≠ some b := fun e => by
  rcases h.2 with q | ⟨g, cap, cur, e1, e2, e3, e4⟩
  · rw [q.1] at e; cases e
  · rw [e1] at e
    obtain rfl : g = b := by simpa [Value.ownBlock] using e
    rw [e3] at hr
    simp at hr
    exact ht hr.2.symm
theorem only_row {P : Nat → Prop} {W W2 : World} (h : Only P W W2) {b : Nat} {o : Obj} (hr : W.heap[b]? = some o) (hp : ¬ P b) : W2.heap[b]? = some o := (h.block b (lt_of_row hr) hp).trans hr
def fb14T : List (Op × Option Tmp × Option (Nat × Bool)) := [
  (.fieldAddr 48 (.tmp 8) 6, some 135, none),
  (.load 22 (.tmp 135), some 136, none),
  (.move (.tmp 6), some 137, none),
  (.move (.tmp 7), some 138, none),
  (.indexAddr 51 (.tmp 137) (.tmp 138), some 139, none),
  (.fieldAddr 50 (.tmp 139) 3, some 140, none),
  (.fieldAddr 48 (.tmp 140) 6, some 141, none),
  (.load 22 (.tmp 141), some 142, none),
  (.call { callee := .value (.func 24), args := #[(.tmp 136), (.tmp 142)], argTypes := #[22, 22] }, some 143, none),
  (.assign (.tmp 143), some 19, none)]
def fb14V (X g o : Nat) (k : Int) (u v : Value) (_ : Unit) : Nat → Value
  | 0 => .pointer (some ⟨X, 6, none⟩)
  | 1 => u
  | 2 => .slice (some ⟨g, 0, none⟩) 3 3
  | 3 => I k
  | 4 => .pointer (some ⟨g, o, none⟩)
  | 5 => .pointer (some ⟨g, o + 3, none⟩)
  | 6 => .pointer (some ⟨g, o + 3 + 6, none⟩)
  | 7 => v
  | 8 => .bool true
  | 9 => .bool true
  | _ => undef
def FbP (w : World) (_id : Int) (_fi : Int) (_nw : Int) (na : Bs) (_pu : Bool) (_of : Bool) (_ch : Bs) (_ol : Bs) (_un : Int) (vb : Option Addr) (vd : Nat) (sd : List Bs) (_idl : Int) (_ab : Int) (_gr : Int) (_li : Int) (su : Bs) (s : Bs) (va : Option Addr) (vc : Nat) (sc : List Bs) : Prop := na.length ≤ 9223372036854775807 ∧ su.length ≤ 9223372036854775807 ∧ s.length ≤ 9223372036854775807 ∧ Sts w vb sd.length sd ∧ sd.length ≤ 8796093022100 ∧ Lns sd ∧ (vb = none → vd = 0) ∧ Sts w va sc.length sc ∧ sc.length ≤ 8796093022100 ∧ Lns sc ∧ (va = none → vc = 0)
theorem familyBegins_any (id1 : Int) (fi1 : Int) (nw1 : Int) (na1 : Bs) (pu1 : Bool) (of1 : Bool) (ch1 : Bs) (ol1 : Bs) (un1 : Int) (vb1 : Option Addr) (vd1 : Nat) (sd1 : List Bs) (idl1 : Int) (ab1 : Int) (gr1 : Int) (li1 : Int) (su1 : Bs) (s1 : Bs) (va1 : Option Addr) (vc1 : Nat) (sc1 : List Bs) (id2 : Int) (fi2 : Int) (nw2 : Int) (na2 : Bs) (pu2 : Bool) (of2 : Bool) (ch2 : Bs) (ol2 : Bs) (un2 : Int) (vb2 : Option Addr) (vd2 : Nat) (sd2 : List Bs) (idl2 : Int) (ab2 : Int) (gr2 : Int) (li2 : Int) (su2 : Bs) (s2 : Bs) (va2 : Option Addr) (vc2 : Nat) (sc2 : List Bs) (w : World) (hp1 : FbP w id1 fi1 nw1 na1 pu1 of1 ch1 ol1 un1 vb1 vd1 sd1 idl1 ab1 gr1 li1 su1 s1 va1 vc1 sc1) (hp2 : FbP w id2 fi2 nw2 na2 pu2 of2 ch2 ol2 un2 vb2 vd2 sd2 idl2 ab2 gr2 li2 su2 s2 va2 vc2 sc2) : Calls Tryz.prog 4 #[.agg #[I id1, I fi1, I nw1, S na1, .bool pu1, .bool of1, S ch1, S ol1, I un1, .slice vb1 sd1.length vd1, I idl1, I ab1, I gr1, I li1, S su1, S s1, .slice va1 sc1.length vc1], .agg #[I id2, I fi2, I nw2, S na2, .bool pu2, .bool of2, S ch2, S ol2, I un2, .slice vb2 sd2.length vd2, I idl2, I ab2, I gr2, I li2, S su2, S s2, .slice va2 sc2.length vc2]] w fun e w' => e = .returned (.bool true) ∧ Below w.heap.size w w' := by
  have hb : Below w.heap.size w ((w.alloc (.cells #[I id1, I fi1, I nw1, S na1, .bool pu1, .bool of1, S ch1, S ol1, I un1, .slice vb1 sd1.length vd1, I idl1, I ab1, I gr1, I li1, S su1, S s1, .slice va1 sc1.length vc1] 50)).alloc (.cells #[I id2, I fi2, I nw2, S na2, .bool pu2, .bool of2, S ch2, S ol2, I un2, .slice vb2 sd2.length vd2, I idl2, I ab2, I gr2, I li2, S su2, S s2, .slice va2 sc2.length vc2] 50)) := (((Below.refl _ w).alloc (by simp <;> omega) _).alloc (by simp <;> omega) _)
  have rx : ((w.alloc (.cells #[I id1, I fi1, I nw1, S na1, .bool pu1, .bool of1, S ch1, S ol1, I un1, .slice vb1 sd1.length vd1, I idl1, I ab1, I gr1, I li1, S su1, S s1, .slice va1 sc1.length vc1] 50)).alloc (.cells #[I id2, I fi2, I nw2, S na2, .bool pu2, .bool of2, S ch2, S ol2, I un2, .slice vb2 sd2.length vd2, I idl2, I ab2, I gr2, I li2, S su2, S s2, .slice va2 sc2.length vc2] 50)).heap[w.heap.size]? = some (.cells #[I id1, I fi1, I nw1, S na1, .bool pu1, .bool of1, S ch1, S ol1, I un1, .slice vb1 sd1.length vd1, I idl1, I ab1, I gr1, I li1, S su1, S s1, .slice va1 sc1.length vc1] 50 (0, 0)) := al_old _ _ _ (by simp <;> omega) (al_new w (.cells #[I id1, I fi1, I nw1, S na1, .bool pu1, .bool of1, S ch1, S ol1, I un1, .slice vb1 sd1.length vd1, I idl1, I ab1, I gr1, I li1, S su1, S s1, .slice va1 sc1.length vc1] 50) (w.heap.size) (by simp))
  have ry : ((w.alloc (.cells #[I id1, I fi1, I nw1, S na1, .bool pu1, .bool of1, S ch1, S ol1, I un1, .slice vb1 sd1.length vd1, I idl1, I ab1, I gr1, I li1, S su1, S s1, .slice va1 sc1.length vc1] 50)).alloc (.cells #[I id2, I fi2, I nw2, S na2, .bool pu2, .bool of2, S ch2, S ol2, I un2, .slice vb2 sd2.length vd2, I idl2, I ab2, I gr2, I li2, S su2, S s2, .slice va2 sc2.length vc2] 50)).heap[w.heap.size + 1]? = some (.cells #[I id2, I fi2, I nw2, S na2, .bool pu2, .bool of2, S ch2, S ol2, I un2, .slice vb2 sd2.length vd2, I idl2, I ab2, I gr2, I li2, S su2, S s2, .slice va2 sc2.length vc2] 50 (0, 0)) := al_new (w.alloc (.cells #[I id1, I fi1, I nw1, S na1, .bool pu1, .bool of1, S ch1, S ol1, I un1, .slice vb1 sd1.length vd1, I idl1, I ab1, I gr1, I li1, S su1, S s1, .slice va1 sc1.length vc1] 50)) (.cells #[I id2, I fi2, I nw2, S na2, .bool pu2, .bool of2, S ch2, S ol2, I un2, .slice vb2 sd2.length vd2, I idl2, I ab2, I gr2, I li2, S su2, S s2, .slice va2 sc2.length vc2] 50) (w.heap.size + 1) (by simp)
  generalize hW1 : ((w.alloc (.cells #[I id1, I fi1, I nw1, S na1, .bool pu1, .bool of1, S ch1, S ol1, I un1, .slice vb1 sd1.length vd1, I idl1, I ab1, I gr1, I li1, S su1, S s1, .slice va1 sc1.length vc1] 50)).alloc (.cells #[I id2, I fi2, I nw2, S na2, .bool pu2, .bool of2, S ch2, S ol2, I un2, .slice vb2 sd2.length vd2, I idl2, I ab2, I gr2, I li2, S su2, S s2, .slice va2 sc2.length vc2] 50)) = W1 at *
  have HB := hide hb
  have HRx := hide rx
  have HRy := hide ry
  clear hb rx ry
  obtain ⟨CS, hCS⟩ : ∃ CS : Array Value, CS = #[I id1, I fi1, I nw1, S na1, .bool pu1, .bool of1, S ch1, S ol1, I un1, .slice vb1 sd1.length vd1, I idl1, I ab1, I gr1, I li1, S su1, S s1, .slice va1 sc1.length vc1, I id2, I fi2, I nw2, S na2, .bool pu2, .bool of2, S ch2, S ol2, I un2, .slice vb2 sd2.length vd2, I idl2, I ab2, I gr2, I li2, S su2, S s2, .slice va2 sc2.length vc2, I id1, I fi1, I nw1, S na1, .bool pu1, .bool of1, S ch1, S ol1, I un1, .slice vb1 sd1.length vd1, I idl1, I ab1, I gr1, I li1, S su1, S s1, .slice va1 sc1.length vc1] := ⟨_, rfl⟩
  have HC : Hid (∀ k, k < 3 → ∃ (id : Int) (fi : Int) (nw : Int) (na : Bs) (pu : Bool) (of : Bool) (ch : Bs) (ol : Bs) (un : Int) (vb : Option Addr) (vd : Nat) (sd : List Bs) (idl : Int) (ab : Int) (gr : Int) (li : Int) (su : Bs) (s : Bs) (va : Option Addr) (vc : Nat) (sc : List Bs), (CS.toList.drop (k * 17)).take 17 = [I id, I fi, I nw, S na, .bool pu, .bool of, S ch, S ol, I un, .slice vb sd.length vd, I idl, I ab, I gr, I li, S su, S s, .slice va sc.length vc] ∧ FbP w id fi nw na pu of ch ol un vb vd sd idl ab gr li su s va vc sc) := hide (fun k hk => by
    rw [hCS]
    rcases (by omega : k = 0 ∨ k = 1 ∨ k = 2) with rfl | rfl | rfl
    · exact ⟨id1, fi1, nw1, na1, pu1, of1, ch1, ol1, un1, vb1, vd1, sd1, idl1, ab1, gr1, li1, su1, s1, va1, vc1, sc1, rfl, hp1⟩
    · exact ⟨id2, fi2, nw2, na2, pu2, of2, ch2, ol2, un2, vb2, vd2, sd2, idl2, ab2, gr2, li2, su2, s2, va2, vc2, sc2, rfl, hp2⟩
    · exact ⟨id1, fi1, nw1, na1, pu1, of1, ch1, ol1, un1, vb1, vd1, sd1, idl1, ab1, gr1, li1, su1, s1, va1, vc1, sc1, rfl, hp1⟩)
  clear hp1 hp2
  have HA := hide (awake_any W1)
  go_enter Tryz.func4, Tryz.ntmps4
  go_wp2_with fail
  refine (unhide HA).mono ?_
  rintro e w1 ⟨rfl, h1⟩
  have hbB := (unhide HB).trans (h1.mono (unhide HB).size)
  have rx := (h1.block _ (lt_of_row (unhide HRx))).trans (unhide HRx)
  have ry := (h1.block _ (lt_of_row (unhide HRy))).trans (unhide HRy)
  clear h1 HB HRx HRy  hW1
  have HB := hide hbB
  have HRx := hide rx
  have HRy := hide ry
  clear hbB rx ry
  clear HA
  have HR := hide (show (w1.alloc (.cells #[I id1, I fi1, I nw1, S na1, .bool pu1, .bool of1, S ch1, S ol1, I un1, .slice vb1 sd1.length vd1, I idl1, I ab1, I gr1, I li1, S su1, S s1, .slice va1 sc1.length vc1, I id2, I fi2, I nw2, S na2, .bool pu2, .bool of2, S ch2, S ol2, I un2, .slice vb2 sd2.length vd2, I idl2, I ab2, I gr2, I li2, S su2, S s2, .slice va2 sc2.length vc2, I id1, I fi1, I nw1, S na1, .bool pu1, .bool of1, S ch1, S ol1, I un1, .slice vb1 sd1.length vd1, I idl1, I ab1, I gr1, I li1, S su1, S s1, .slice va1 sc1.length vc1] 50)).heap[w1.heap.size]? = some (.cells CS 50 (0, 0)) from hCS ▸ heap_alloc_new _ _)
  have HB2 := hide ((unhide HB).alloc (unhide HB).size (.cells #[I id1, I fi1, I nw1, S na1, .bool pu1, .bool of1, S ch1, S ol1, I un1, .slice vb1 sd1.length vd1, I idl1, I ab1, I gr1, I li1, S su1, S s1, .slice va1 sc1.length vc1, I id2, I fi2, I nw2, S na2, .bool pu2, .bool of2, S ch2, S ol2, I un2, .slice vb2 sd2.length vd2, I idl2, I ab2, I gr2, I li2, S su2, S s2, .slice va2 sc2.length vc2, I id1, I fi1, I nw1, S na1, .bool pu1, .bool of1, S ch1, S ol1, I un1, .slice vb1 sd1.length vd1, I idl1, I ab1, I gr1, I li1, S su1, S s1, .slice va1 sc1.length vc1] 50))
  have HG := hide (unhide HB).size
  go_wp2_with (first | (refine wp_run rfl (g_load (t := 50) (a := .tmp 2) rfl (by rfl) (s_ldr (T := 50) (n := 17) (fun _ => by kernel_rfl) (fun _ => by kernel_rfl) (unhide HRx) (#[I id1, I fi1, I nw1, S na1, .bool pu1, .bool of1, S ch1, S ol1, I un1, .slice vb1 sd1.length vd1, I idl1, I ab1, I gr1, I li1, S su1, S s1, .slice va1 sc1.length vc1]).toList rfl rfl)) ?_) | (refine wp_run rfl (g_load (t := 50) (a := .tmp 3) rfl (by rfl) (s_ldr (T := 50) (n := 17) (fun _ => by kernel_rfl) (fun _ => by kernel_rfl) (unhide HRy) (#[I id2, I fi2, I nw2, S na2, .bool pu2, .bool of2, S ch2, S ol2, I un2, .slice vb2 sd2.length vd2, I idl2, I ab2, I gr2, I li2, S su2, S s2, .slice va2 sc2.length vc2]).toList rfl rfl)) ?_))
  generalize w1.alloc (.cells #[I id1, I fi1, I nw1, S na1, .bool pu1, .bool of1, S ch1, S ol1, I un1, .slice vb1 sd1.length vd1, I idl1, I ab1, I gr1, I li1, S su1, S s1, .slice va1 sc1.length vc1, I id2, I fi2, I nw2, S na2, .bool pu2, .bool of2, S ch2, S ol2, I un2, .slice vb2 sd2.length vd2, I idl2, I ab2, I gr2, I li2, S su2, S s2, .slice va2 sc2.length vc2, I id1, I fi1, I nw1, S na1, .bool pu1, .bool of1, S ch1, S ol1, I un1, .slice vb1 sd1.length vd1, I idl1, I ab1, I gr1, I li1, S su1, S s1, .slice va1 sc1.length vc1] 50) = W2 at *
  generalize w1.heap.size = g at *
  clear hCS HB HRx HRy 
  go_loopw [7] (fun i wr => ∃ k : Nat, k ≤ 3 ∧ i = .int .i64 k ∧ Below w.heap.size w wr ∧ wr.heap[g]? = some (.cells CS 50 (0, 0))) (fun i _ => 3 - (Go.RowKit.intOf i).toNat)
  case atStart => exact ⟨0, by omega, rfl, unhide HB2, unhide HR⟩
  case round =>
    clear HB2 HR
    obtain ⟨k, hk, rfl, hbw, hrow⟩ := hrel
    by_cases hlt : k < 3
    · have hlt' : (k : Int) < 3 := by omega
      obtain ⟨id, fi, nw, na, pu, of, ch, ol, un, vb, vd, sd, idl, ab, gr, li, su, s, va, vc, sc, hV, hna, hsu, hs, hsd, hdl, hld, hnd, hsc, hsl, hln, hnc⟩ := unhide HC k hlt
      clear HC
      obtain ⟨q0, q1, q2, q4, q5, q6, q7, q8, q9, q10, q11, q12, q13, p0, p1, p2, p3, p4, p5, p6, p7, p8, E, r, hr, Y1, Y2⟩ := beg_both id fi na pu of ch ol un sd idl ab gr li su sc s nw hna (by omega) hld hsu hs (by omega) hln
      have HY1 := hide Y1
      have HY2 := hide Y2
      have HV := hide hV
      have HSD := hide hsd
      have HSC := hide hsc
      have HL1 := hide (fun W (h : Below w.heap.size w W) => lent_any vb sd.length vd sd W (hsd.below h) hnd hdl)
      have HL2 := hide (fun W (h : Below w.heap.size w W) => lent_any va sc.length vc sc W (hsc.below h) hnc hsl)
      have HW1 := hide (fun W (h : Below w.heap.size w W) gl (hb : Blk gl (sd ++ [spare, spare]) W) => whole_any gl vb sd.length vd sd W hb (hsd.below h) hdl)
      have HW2 := hide (fun W (h : Below w.heap.size w W) gl (hb : Blk gl (sc ++ [spare, spare]) W) => whole_any gl va sc.length vc sc W hb (hsc.below h) hsl)
      clear Y1 Y2 hna hsu hs hsd hld hnd hsc hln hnc
      have hgl := lt_of_row hrow
      have HRow := hide hrow
      have HBW := hide hbw
      have c3 : wr.cell? ⟨g, k * 17 + 3, none⟩ = some (S na) := part17 hrow hV rfl (j := 3) rfl
      have c4 : wr.cell? ⟨g, k * 17 + 4, none⟩ = some (.bool pu) := part17 hrow hV rfl (j := 4) rfl
      have c5 : wr.cell? ⟨g, k * 17 + 5, none⟩ = some (.bool of) := part17 hrow hV rfl (j := 5) rfl
      have c6 : wr.cell? ⟨g, k * 17 + 6, none⟩ = some (S ch) := part17 hrow hV rfl (j := 6) rfl
      have c7 : wr.cell? ⟨g, k * 17 + 7, none⟩ = some (S ol) := part17 hrow hV rfl (j := 7) rfl
      have c8 : wr.cell? ⟨g, k * 17 + 8, none⟩ = some (I un) := part17 hrow hV rfl (j := 8) rfl
      have c9 : wr.cell? ⟨g, k * 17 + 9, none⟩ = some (.slice vb sd.length vd) := part17 hrow hV rfl (j := 9) rfl
      have c10 : wr.cell? ⟨g, k * 17 + 10, none⟩ = some (I idl) := part17 hrow hV rfl (j := 10) rfl
      have c11 : wr.cell? ⟨g, k * 17 + 11, none⟩ = some (I ab) := part17 hrow hV rfl (j := 11) rfl
      have c12 : wr.cell? ⟨g, k * 17 + 12, none⟩ = some (I gr) := part17 hrow hV rfl (j := 12) rfl
      have c13 : wr.cell? ⟨g, k * 17 + 13, none⟩ = some (I li) := part17 hrow hV rfl (j := 13) rfl
      clear hrow hV hbw
      go_upto_region 7 with (refine wp_stA inf48 rfl (.tmp 8) (.tmp 35) rfl wr.heap.size (by rfl) #[S na, .bool pu, .bool of, S ch, S ol, I un, .slice vb sd.length vd, I idl, I ab, I gr, I li] (by rfl) #[S [], .bool false, .bool false, S [], S [], I 0, .slice none 0 0, I 0, I 0, I 0, I 0] rfl rfl (heap_alloc_new _ _) (by simp [Value.oneCell']) ?_; generalize hW3 : (wr.alloc (.cells #[S [], .bool false, .bool false, S [], S [], I 0, .slice none 0 0, I 0, I 0, I 0, I 0] 48)).setRow wr.heap.size #[S na, .bool pu, .bool of, S ch, S ol, I un, .slice vb sd.length vd, I idl, I ab, I gr, I li] = W3)
      obtain ⟨h3, rc⟩ := new_row hW3
      clear hW3
      have hbw := (unhide HBW).trans (h3.mono (unhide HBW).size)
      have hwr := (unhide HBW).size
      have rg := (h3.block g hgl).trans (unhide HRow)
      have hV := unhide HV
      clear c3 c4 c5 c6 c7 c8 c9 c10 c11 c12 c13 HRow HBW
      have c9 : W3.cell? ⟨g, k * 17 + 3 + 6, none⟩ = some (.slice vb sd.length vd) := part17 rg hV rfl (j := 9) rfl
      have hlb : wr.heap.size < W3.heap.size := lt_of_row rc
      have HX := hide (unhide HL1 W3 hbw)
      have H_h3 := hide h3
      have H_rc := hide rc
      have H_rg := hide rg
      have H_hbw := hide hbw
      have H_hV := hide hV
      clear h3 rc rg hbw hV
      clear HL1
      go_wp2_with fail
      refine (unhide HX).mono ?_
      rintro e w4 ⟨rfl, bk1, h4⟩
      have rc := unhide H_rc
      have rg := unhide H_rg
      have hbw := unhide H_hbw
      clear H_rc H_rg H_hbw
      have rc := (h4.block _ (lt_of_row rc)).trans rc
      have rg := (h4.block _ (lt_of_row rg)).trans rg
      have hbw := hbw.trans (h4.mono hbw.size)
      generalize W3.heap.size = lb at *
      clear HX c9 h4 H_h3
      have H_rc := hide rc
      have H_rg := hide rg
      have H_hbw := hide hbw
      have H_bk1 := hide bk1
      clear rc rg hbw bk1
      go_upto_region 8 with (refine wp_stC (T := 22) (fun _ => by kernel_rfl) rfl (.tmp 43) (.tmp 42) rfl wr.heap.size 6 (by rfl) (.slice (some ⟨lb, 0, none⟩) sd.length (sd.length + 2)) (by rfl) rfl rfl #[S na, .bool pu, .bool of, S ch, S ol, I un, .slice vb sd.length vd, I idl, I ab, I gr, I li] 48 (unhide H_rc) (by simp) #[S na, .bool pu, .bool of, S ch, S ol, I un, .slice (some ⟨lb, 0, none⟩) sd.length (sd.length + 2), I idl, I ab, I gr, I li] rfl ?_; generalize hW5 : w4.setRow wr.heap.size #[S na, .bool pu, .bool of, S ch, S ol, I un, .slice (some ⟨lb, 0, none⟩) sd.length (sd.length + 2), I idl, I ab, I gr, I li] = W5)
      have rc := unhide H_rc
      have rg := unhide H_rg
      have hbw := unhide H_hbw
      have bk1 := unhide H_bk1
      have hV := unhide H_hV
      clear H_rc H_rg H_hbw H_bk1 H_hV
      have rc : W5.heap[wr.heap.size]? = some (.cells #[S na, .bool pu, .bool of, S ch, S ol, I un, .slice (some ⟨lb, 0, none⟩) sd.length (sd.length + 2), I idl, I ab, I gr, I li] 48 (0, 0)) := by rw [← hW5]; exact setRow_row rc
      have rg : W5.heap[g]? = some (.cells CS 50 (0, 0)) := by rw [← hW5]; exact row_set rg (by omega)
      have bk1 : Blk lb (sd ++ [spare, spare]) W5 := by rw [← hW5]; exact row_set bk1 (by omega)
      have hbw : Below w.heap.size w W5 := by rw [← hW5]; exact bel_set hbw _ _ hwr hbw.size
      clear hW5
      have c16 : W5.cell? ⟨g, k * 17 + 16, none⟩ = some (.slice va sc.length vc) := part17 rg hV rfl (j := 16) rfl
      have HX := hide (unhide HL2 W5 hbw)
      have hls : lb < W5.heap.size := bk1.lt
      have H_rc := hide rc
      have H_rg := hide rg
      have H_hbw := hide hbw
      have H_bk1 := hide bk1
      have H_hV := hide hV
      clear rc rg hbw bk1 hV
      clear HL2
      go_wp2_with fail
      refine (unhide HX).mono ?_
      rintro e w6 ⟨rfl, bk2, h6⟩
      have rc := unhide H_rc
      have rg := unhide H_rg
      have hbw := unhide H_hbw
      have bk1 := unhide H_bk1
      have hV := unhide H_hV
      clear H_rc H_rg H_hbw H_bk1 H_hV
      have rc := (h6.block _ (lt_of_row rc)).trans rc
      have rg := (h6.block _ (lt_of_row rg)).trans rg
      have hbw := hbw.trans (h6.mono hbw.size)
      have bk1 := bk1.keep h6
      generalize W5.heap.size = ls at *
      clear HX c16 h6
      have hls6 : ls < w6.heap.size := bk2.lt
      have HX : Hid (∀ W, Below w6.heap.size w6 W → Calls Tryz.prog 25 #[I id, I fi, .agg #[S na, .bool pu, .bool of, S ch, S ol, I un, .slice (some ⟨lb, 0, none⟩) sd.length (sd.length + 2), I idl, I ab, I gr, I li], S su, .slice (some ⟨ls, 0, none⟩) sc.length (sc.length + 2), S s, I nw] W (OutQ (fun v => #[I q0, S q1, S q2, v, I q4, I q5, I q6, I q7, I q8, I q9, I q10, I q11, I q12, I q13]) #[I p0, I p1, I p2, S p3, I p4, .bool p5, I p6, I p7, S p8] E r W)) := hide (fun W h => unhide HY1 W (some ⟨lb, 0, none⟩) (sd.length + 2) (some ⟨ls, 0, none⟩) (sc.length + 2) (bk1.keep h).part (bk2.keep h).part)
      have H_rc := hide rc
      have H_rg := hide rg
      have H_hbw := hide hbw
      have H_bk1 := hide bk1
      have H_bk2 := hide bk2
      have H_hV := hide hV
      clear rc rg hbw bk1 bk2 hV
      clear HY1
      go_upto_region 9 with fail
      refine region_tabX fb9T [(6, .slice (some ⟨g, 0, none⟩) 3 3), (7, I (k : Int)), (8, ptr wr.heap.size), (9, .slice (some ⟨ls, 0, none⟩) sc.length (sc.length + 2))] 169 [0, 1, 3, 5, 6, 8, 11, 12, 14, 16, 17, 18, 20, 22, 23, 25, 30, 31, 36] (fb9V g (k * 17) (k : Int) id fi #[S na, .bool pu, .bool of, S ch, S ol, I un, .slice (some ⟨lb, 0, none⟩) sd.length (sd.length + 2), I idl, I ab, I gr, I li] su (.slice (some ⟨ls, 0, none⟩) sc.length (sc.length + 2)) s nw (fun v => #[I q0, S q1, S q2, v, I q4, I q5, I q6, I q7, I q8, I q9, I q10, I q11, I q12, I q13]) #[I p0, I p1, I p2, S p3, I p4, .bool p5, I p6, I p7, S p8] E r.length) rfl (by rfl) (by rfl) rfl (fun c w => by kernel_rfl) _ w6 (Nat.le_of_ble_eq_true rfl) rfl (WC 27 w6 (fun v => #[I q0, S q1, S q2, v, I q4, I q5, I q6, I q7, I q8, I q9, I q10, I q11, I q12, I q13]) #[I 0, S [], S [], .slice none 0 0, I 0, I 0, I 0, I 0, I 0, I 0, I 0, I 0, I 0, I 0] #[I p0, I p1, I p2, S p3, I p4, .bool p5, I p6, I p7, S p8] #[I 0, I 0, I 0, S [], I 0, .bool false, I 0, I 0, S []] r) ⟨(none, 0, 0, 0), ⟨(Below.refl _ _).drew, (fun e => by cases e), (fun e => by cases e), (fun e => by cases e), (fun e => by cases e), (fun e => by cases e), (fun e => by cases e), (fun e => by cases e)⟩⟩ (fun i hi c L W hW => hW.pure i (by simp at hi; omega)) ?spc ?_
      case spc =>
        intro i hi hp c L W hW hL hd
        rcases (by simp [fb9T] at hi hp; omega : i = 2 ∨ i = 4 ∨ i = 7 ∨ i = 9 ∨ i = 10 ∨ i = 13 ∨ i = 15 ∨ i = 19 ∨ i = 21 ∨ i = 24 ∨ i = 26 ∨ i = 27 ∨ i = 28 ∨ i = 29 ∨ i = 32 ∨ i = 33 ∨ i = 34 ∨ i = 35) with rfl | rfl | rfl | rfl | rfl | rfl | rfl | rfl | rfl | rfl | rfl | rfl | rfl | rfl | rfl | rfl | rfl | rfl
        · skip
          exact ⟨⟨_, rfl, s_ix51 g k hlt⟩, hW.pure 2 (by omega)⟩
        · skip
          have rgW := (hW.be.block _ (lt_of_row (unhide H_rg))).trans (unhide H_rg)
          have f1 : (Instr.loadAt 3 (.pointer (some ⟨g, k * 17, none⟩))).run Tryz.prog W = .ok (I id) W := s_ld (T := 3) (fun _ => by kernel_rfl) (part17 rgW (unhide H_hV) rfl (j := 0) rfl)
          exact ⟨f1, hW.pure 4 (by omega)⟩
        · skip
          exact ⟨⟨_, rfl, s_ix51 g k hlt⟩, hW.pure 7 (by omega)⟩
        · skip
          have rgW := (hW.be.block _ (lt_of_row (unhide H_rg))).trans (unhide H_rg)
          have f1 : (Instr.loadAt 3 (.pointer (some ⟨g, k * 17 + 1, none⟩))).run Tryz.prog W = .ok (I fi) W := s_ld (T := 3) (fun _ => by kernel_rfl) (part17 rgW (unhide H_hV) rfl (j := 1) rfl)
          exact ⟨f1, hW.pure 9 (by omega)⟩
        · skip
          have rcW := (hW.be.block _ (lt_of_row (unhide H_rc))).trans (unhide H_rc)
          have f1 : (Instr.loadAt 48 (ptr wr.heap.size)).run Tryz.prog W = .ok (.agg #[S na, .bool pu, .bool of, S ch, S ol, I un, .slice (some ⟨lb, 0, none⟩) sd.length (sd.length + 2), I idl, I ab, I gr, I li]) W := s_ldr (T := 48) (n := 11) (fun _ => by kernel_rfl) (fun _ => by kernel_rfl) rcW (#[S na, .bool pu, .bool of, S ch, S ol, I un, .slice (some ⟨lb, 0, none⟩) sd.length (sd.length + 2), I idl, I ab, I gr, I li]).toList rfl rfl
          exact ⟨f1, hW.pure 10 (by omega)⟩
        · skip
          exact ⟨⟨_, rfl, s_ix51 g k hlt⟩, hW.pure 13 (by omega)⟩
        · skip
          have rgW := (hW.be.block _ (lt_of_row (unhide H_rg))).trans (unhide H_rg)
          have f1 : (Instr.loadAt 9 (.pointer (some ⟨g, k * 17 + 14, none⟩))).run Tryz.prog W = .ok (S su) W := s_ld (T := 9) (fun _ => by kernel_rfl) (part17 rgW (unhide H_hV) rfl (j := 14) rfl)
          exact ⟨f1, hW.pure 15 (by omega)⟩
        · skip
          exact ⟨⟨_, rfl, s_ix51 g k hlt⟩, hW.pure 19 (by omega)⟩
        · skip
          have rgW := (hW.be.block _ (lt_of_row (unhide H_rg))).trans (unhide H_rg)
          have f1 : (Instr.loadAt 9 (.pointer (some ⟨g, k * 17 + 15, none⟩))).run Tryz.prog W = .ok (S s) W := s_ld (T := 9) (fun _ => by kernel_rfl) (part17 rgW (unhide H_hV) rfl (j := 15) rfl)
          exact ⟨f1, hW.pure 21 (by omega)⟩
        · skip
          exact ⟨⟨_, rfl, s_ix51 g k hlt⟩, hW.pure 24 (by omega)⟩
        · skip
          have rgW := (hW.be.block _ (lt_of_row (unhide H_rg))).trans (unhide H_rg)
          have f1 : (Instr.loadAt 3 (.pointer (some ⟨g, k * 17 + 2, none⟩))).run Tryz.prog W = .ok (I nw) W := s_ld (T := 3) (fun _ => by kernel_rfl) (part17 rgW (unhide H_hV) rfl (j := 2) rfl)
          exact ⟨f1, hW.pure 26 (by omega)⟩
        · refine ⟨⟨_, _, Tryz.func25, by kernel_rfl, rfl⟩, (unhide HX W hW.be).mono fun e w' q => ?_⟩
          obtain ⟨a, cap, e1, e2, e3⟩ := q
          have h1 : L 28 = false := by cases q : L 28 with | false => rfl | true => rw [hW.o3 q] at hL; cases hL
          have h2 : L 29 = false := by cases q : L 29 with | false => rfl | true => rw [hW.o4 q] at hL; cases hL
          exact ⟨(a, cap, c.2.2.1, c.2.2.2), fun j hj => fb9V_c (by intro e; subst e; rw [hL] at hj; cases hj) (by intro e; subst e; rw [h1] at hj; cases hj) (by intro e; subst e; rw [h2] at hj; cases hj), e1, hW.got hL e2 e3⟩
        · exact ⟨⟨_, rfl, by kernel_rfl⟩, hW.dep 28 (by omega) (hd 27 (by rfl))⟩
        · exact ⟨⟨_, rfl, by kernel_rfl⟩, hW.dep 29 (by omega) (hW.o3 (hd 28 (by rfl)))⟩
        · exact ⟨(c.1, c.2.1, W.heap.size, c.2.2.2), _, fun j hj => fb9V_5 (by intro e; subst e; rw [hL] at hj; cases hj), (show (Instr.alloc 24 true (.tuple #[])).run Tryz.prog W = .ok (ptr W.heap.size) (W.alloc (.cells #[I 0, S [], S [], .slice none 0 0, I 0, I 0, I 0, I 0, I 0, I 0, I 0, I 0, I 0, I 0] 24)) by kernel_rfl), hW.al1 hL⟩
        · exact ⟨(c.1, c.2.1, c.2.2.1, W.heap.size), _, fun j hj => fb9V_6 (by intro e; subst e; rw [hL] at hj; cases hj), (show (Instr.alloc 26 true (.tuple #[])).run Tryz.prog W = .ok (ptr W.heap.size) (W.alloc (.cells #[I 0, I 0, I 0, S [], I 0, .bool false, I 0, I 0, S []] 26)) by kernel_rfl), hW.al2 hL⟩
        · have h5 : L 32 = true := hd 32 (by rfl)
          have hK : L 27 = true := hW.o4 (hd 29 (by rfl))
          have hrr := (hW.ra h5).2
          rw [hL] at hrr
          have f1 : (Instr.storeAt 24 (ptr c.2.2.1) (.agg #[I q0, S q1, S q2, .slice c.1 r.length c.2.1, I q4, I q5, I q6, I q7, I q8, I q9, I q10, I q11, I q12, I q13])).run Tryz.prog W = .ok () (W.setRow c.2.2.1 #[I q0, S q1, S q2, .slice c.1 r.length c.2.1, I q4, I q5, I q6, I q7, I q8, I q9, I q10, I q11, I q12, I q13]) := st_all (T := 24) (n := 14) (fun _ => by kernel_rfl) (cs := #[I 0, S [], S [], .slice none 0 0, I 0, I 0, I 0, I 0, I 0, I 0, I 0, I 0, I 0, I 0]) hrr rfl #[I q0, S q1, S q2, .slice c.1 r.length c.2.1, I q4, I q5, I q6, I q7, I q8, I q9, I q10, I q11, I q12, I q13] rfl (by simp [Value.oneCell'])
          exact ⟨rfl, _, f1, hW.st1 h5 hK⟩
        · have h6 : L 33 = true := hd 33 (by rfl)
          have hrr := (hW.rb h6).2
          rw [hL] at hrr
          have f1 : (Instr.storeAt 26 (ptr c.2.2.2) (.agg #[I p0, I p1, I p2, S p3, I p4, .bool p5, I p6, I p7, S p8])).run Tryz.prog W = .ok () (W.setRow c.2.2.2 #[I p0, I p1, I p2, S p3, I p4, .bool p5, I p6, I p7, S p8]) := st_all (T := 26) (n := 9) (fun _ => by kernel_rfl) (cs := #[I 0, I 0, I 0, S [], I 0, .bool false, I 0, I 0, S []]) hrr rfl #[I p0, I p1, I p2, S p3, I p4, .bool p5, I p6, I p7, S p8] rfl (by simp [Value.oneCell'])
          exact ⟨rfl, _, f1, hW.st2 h6⟩
      intro c L W7 hall hW
      obtain ⟨a7, cap7, pb7, qb7⟩ := c
      simp only [frmL, fb9T, fb9V, Act.put, List.setIfInBounds_toArray, List.set_cons_succ, List.set_cons_zero]
      have own7 := hW.own (hall 27 (by decide))
      obtain ⟨lp7, rp7⟩ := hW.ra (hall 32 (by decide))
      rw [hall 34 (by decide)] at rp7
      obtain ⟨lq7, rq7⟩ := hW.rb (hall 33 (by decide))
      rw [hall 35 (by decide)] at rq7
      have be7 := hW.be
      clear hall hW
      have rc := unhide H_rc
      have rg := unhide H_rg
      have hbw := unhide H_hbw
      have bk1 := unhide H_bk1
      have bk2 := unhide H_bk2
      clear H_rc H_rg H_hbw H_bk1 H_bk2
      have rc := (be7.block _ (lt_of_row rc)).trans rc
      have rg := (be7.block _ (lt_of_row rg)).trans rg
      have hbw := hbw.trans (be7.mono hbw.size)
      have bk1 := bk1.keep be7
      have bk2 := bk2.keep be7
      clear HX
      have HX : Hid (∀ W, Below w.heap.size w W → Calls Tryz.prog 26 #[I id, I fi, .agg #[S na, .bool pu, .bool of, S ch, S ol, I un, .slice vb sd.length vd, I idl, I ab, I gr, I li], S su, .slice va sc.length vc, S s, I nw] W (OutQ (fun v => #[I q0, S q1, S q2, v, I q4, I q5, I q6, I q7, I q8, I q9, I q10, I q11, I q12, I q13]) #[I p0, I p1, I p2, S p3, I p4, .bool p5, I p6, I p7, S p8] E r W)) := hide (fun W h => unhide HY2 W vb vd va vc ((unhide HSD).below h) ((unhide HSC).below h))
      have rp7 : W7.heap[pb7]? = some (.cells #[I q0, S q1, S q2, .slice a7 r.length cap7, I q4, I q5, I q6, I q7, I q8, I q9, I q10, I q11, I q12, I q13] 24 (0, 0)) := rp7
      have rq7 : W7.heap[qb7]? = some (.cells #[I p0, I p1, I p2, S p3, I p4, .bool p5, I p6, I p7, S p8] 26 (0, 0)) := rq7
      have own7 : OwnS w6.heap.size W7 (.slice a7 r.length cap7) r := own7
      have H_rc := hide rc
      have H_rg := hide rg
      have H_hbw := hide hbw
      have H_bk1 := hide bk1
      have H_bk2 := hide bk2
      have H_own7 := hide own7
      have H_rp7 := hide rp7
      have H_rq7 := hide rq7
      clear rc rg hbw bk1 bk2 own7 rp7 rq7
      clear HY2 be7 lp7 lq7
      go_upto_region 10 with fail
      refine region_tabX fb10T [(6, .slice (some ⟨g, 0, none⟩) 3 3), (7, I (k : Int))] 169 [0, 1, 3, 5, 6, 8, 10, 11, 13, 15, 16, 18, 20, 21, 23, 25, 26, 28, 30, 31, 33, 38, 39, 44] (fb10V g (k * 17) (k : Int) id fi #[S na, .bool pu, .bool of, S ch, S ol, I un, .slice vb sd.length vd, I idl, I ab, I gr, I li] su (.slice va sc.length vc) s nw (fun v => #[I q0, S q1, S q2, v, I q4, I q5, I q6, I q7, I q8, I q9, I q10, I q11, I q12, I q13]) #[I p0, I p1, I p2, S p3, I p4, .bool p5, I p6, I p7, S p8] E r.length) rfl (by rfl) (by rfl) rfl (fun c w => by kernel_rfl) _ W7 (Nat.le_of_ble_eq_true rfl) rfl (WC 35 W7 (fun v => #[I q0, S q1, S q2, v, I q4, I q5, I q6, I q7, I q8, I q9, I q10, I q11, I q12, I q13]) #[I 0, S [], S [], .slice none 0 0, I 0, I 0, I 0, I 0, I 0, I 0, I 0, I 0, I 0, I 0] #[I p0, I p1, I p2, S p3, I p4, .bool p5, I p6, I p7, S p8] #[I 0, I 0, I 0, S [], I 0, .bool false, I 0, I 0, S []] r) ⟨(none, 0, 0, 0), ⟨(Below.refl _ _).drew, (fun e => by cases e), (fun e => by cases e), (fun e => by cases e), (fun e => by cases e), (fun e => by cases e), (fun e => by cases e), (fun e => by cases e)⟩⟩ (fun i hi c L W hW => hW.pure i (by simp at hi; omega)) ?spc ?_
      case spc =>
        intro i hi hp c L W hW hL hd
        rcases (by simp [fb10T] at hi hp; omega : i = 2 ∨ i = 4 ∨ i = 7 ∨ i = 9 ∨ i = 12 ∨ i = 14 ∨ i = 17 ∨ i = 19 ∨ i = 22 ∨ i = 24 ∨ i = 27 ∨ i = 29 ∨ i = 32 ∨ i = 34 ∨ i = 35 ∨ i = 36 ∨ i = 37 ∨ i = 40 ∨ i = 41 ∨ i = 42 ∨ i = 43) with rfl | rfl | rfl | rfl | rfl | rfl | rfl | rfl | rfl | rfl | rfl | rfl | rfl | rfl | rfl | rfl | rfl | rfl | rfl | rfl | rfl
        · skip
          exact ⟨⟨_, rfl, s_ix51 g k hlt⟩, hW.pure 2 (by omega)⟩
        · skip
          have rgW := (hW.be.block _ (lt_of_row (unhide H_rg))).trans (unhide H_rg)
          have f1 : (Instr.loadAt 3 (.pointer (some ⟨g, k * 17, none⟩))).run Tryz.prog W = .ok (I id) W := s_ld (T := 3) (fun _ => by kernel_rfl) (part17 rgW (unhide H_hV) rfl (j := 0) rfl)
          exact ⟨f1, hW.pure 4 (by omega)⟩
        · skip
          exact ⟨⟨_, rfl, s_ix51 g k hlt⟩, hW.pure 7 (by omega)⟩
        · skip
          have rgW := (hW.be.block _ (lt_of_row (unhide H_rg))).trans (unhide H_rg)
          have f1 : (Instr.loadAt 3 (.pointer (some ⟨g, k * 17 + 1, none⟩))).run Tryz.prog W = .ok (I fi) W := s_ld (T := 3) (fun _ => by kernel_rfl) (part17 rgW (unhide H_hV) rfl (j := 1) rfl)
          exact ⟨f1, hW.pure 9 (by omega)⟩
        · skip
          exact ⟨⟨_, rfl, s_ix51 g k hlt⟩, hW.pure 12 (by omega)⟩
        · skip
          have rgW := (hW.be.block _ (lt_of_row (unhide H_rg))).trans (unhide H_rg)
          have f1 : (Instr.loadAt 48 (.pointer (some ⟨g, k * 17 + 3, none⟩))).run Tryz.prog W = .ok (.agg #[S na, .bool pu, .bool of, S ch, S ol, I un, .slice vb sd.length vd, I idl, I ab, I gr, I li]) W := s_ldr (T := 48) (n := 11) (fun _ => by kernel_rfl) (fun _ => by kernel_rfl) rgW (#[S na, .bool pu, .bool of, S ch, S ol, I un, .slice vb sd.length vd, I idl, I ab, I gr, I li]).toList rfl (part_sub (unhide H_hV) (by decide))
          exact ⟨f1, hW.pure 14 (by omega)⟩
        · skip
          exact ⟨⟨_, rfl, s_ix51 g k hlt⟩, hW.pure 17 (by omega)⟩
        · skip
          have rgW := (hW.be.block _ (lt_of_row (unhide H_rg))).trans (unhide H_rg)
          have f1 : (Instr.loadAt 9 (.pointer (some ⟨g, k * 17 + 14, none⟩))).run Tryz.prog W = .ok (S su) W := s_ld (T := 9) (fun _ => by kernel_rfl) (part17 rgW (unhide H_hV) rfl (j := 14) rfl)
          exact ⟨f1, hW.pure 19 (by omega)⟩
        · skip
          exact ⟨⟨_, rfl, s_ix51 g k hlt⟩, hW.pure 22 (by omega)⟩
        · skip
          have rgW := (hW.be.block _ (lt_of_row (unhide H_rg))).trans (unhide H_rg)
          have f1 : (Instr.loadAt 22 (.pointer (some ⟨g, k * 17 + 16, none⟩))).run Tryz.prog W = .ok (.slice va sc.length vc) W := s_ld (T := 22) (fun _ => by kernel_rfl) (part17 rgW (unhide H_hV) rfl (j := 16) rfl)
          exact ⟨f1, hW.pure 24 (by omega)⟩
        · skip
          exact ⟨⟨_, rfl, s_ix51 g k hlt⟩, hW.pure 27 (by omega)⟩
        · skip
          have rgW := (hW.be.block _ (lt_of_row (unhide H_rg))).trans (unhide H_rg)
          have f1 : (Instr.loadAt 9 (.pointer (some ⟨g, k * 17 + 15, none⟩))).run Tryz.prog W = .ok (S s) W := s_ld (T := 9) (fun _ => by kernel_rfl) (part17 rgW (unhide H_hV) rfl (j := 15) rfl)
          exact ⟨f1, hW.pure 29 (by omega)⟩
        · skip
          exact ⟨⟨_, rfl, s_ix51 g k hlt⟩, hW.pure 32 (by omega)⟩
        · skip
          have rgW := (hW.be.block _ (lt_of_row (unhide H_rg))).trans (unhide H_rg)
          have f1 : (Instr.loadAt 3 (.pointer (some ⟨g, k * 17 + 2, none⟩))).run Tryz.prog W = .ok (I nw) W := s_ld (T := 3) (fun _ => by kernel_rfl) (part17 rgW (unhide H_hV) rfl (j := 2) rfl)
          exact ⟨f1, hW.pure 34 (by omega)⟩
        · refine ⟨⟨_, _, Tryz.func26, by kernel_rfl, rfl⟩, (unhide HX W ((unhide H_hbw).trans (hW.be.mono (unhide H_hbw).size))).mono fun e w' q => ?_⟩
          obtain ⟨a, cap, e1, e2, e3⟩ := q
          have h1 : L 36 = false := by cases q : L 36 with | false => rfl | true => rw [hW.o3 q] at hL; cases hL
          have h2 : L 37 = false := by cases q : L 37 with | false => rfl | true => rw [hW.o4 q] at hL; cases hL
          exact ⟨(a, cap, c.2.2.1, c.2.2.2), fun j hj => fb10V_c (by intro e; subst e; rw [hL] at hj; cases hj) (by intro e; subst e; rw [h1] at hj; cases hj) (by intro e; subst e; rw [h2] at hj; cases hj), e1, hW.got hL e2 e3⟩
        · exact ⟨⟨_, rfl, by kernel_rfl⟩, hW.dep 36 (by omega) (hd 35 (by rfl))⟩
        · exact ⟨⟨_, rfl, by kernel_rfl⟩, hW.dep 37 (by omega) (hW.o3 (hd 36 (by rfl)))⟩
        · exact ⟨(c.1, c.2.1, W.heap.size, c.2.2.2), _, fun j hj => fb10V_5 (by intro e; subst e; rw [hL] at hj; cases hj), (show (Instr.alloc 24 true (.tuple #[])).run Tryz.prog W = .ok (ptr W.heap.size) (W.alloc (.cells #[I 0, S [], S [], .slice none 0 0, I 0, I 0, I 0, I 0, I 0, I 0, I 0, I 0, I 0, I 0] 24)) by kernel_rfl), hW.al1 hL⟩
        · exact ⟨(c.1, c.2.1, c.2.2.1, W.heap.size), _, fun j hj => fb10V_6 (by intro e; subst e; rw [hL] at hj; cases hj), (show (Instr.alloc 26 true (.tuple #[])).run Tryz.prog W = .ok (ptr W.heap.size) (W.alloc (.cells #[I 0, I 0, I 0, S [], I 0, .bool false, I 0, I 0, S []] 26)) by kernel_rfl), hW.al2 hL⟩
        · have h5 : L 40 = true := hd 40 (by rfl)
          have hK : L 35 = true := hW.o4 (hd 37 (by rfl))
          have hrr := (hW.ra h5).2
          rw [hL] at hrr
          have f1 : (Instr.storeAt 24 (ptr c.2.2.1) (.agg #[I q0, S q1, S q2, .slice c.1 r.length c.2.1, I q4, I q5, I q6, I q7, I q8, I q9, I q10, I q11, I q12, I q13])).run Tryz.prog W = .ok () (W.setRow c.2.2.1 #[I q0, S q1, S q2, .slice c.1 r.length c.2.1, I q4, I q5, I q6, I q7, I q8, I q9, I q10, I q11, I q12, I q13]) := st_all (T := 24) (n := 14) (fun _ => by kernel_rfl) (cs := #[I 0, S [], S [], .slice none 0 0, I 0, I 0, I 0, I 0, I 0, I 0, I 0, I 0, I 0, I 0]) hrr rfl #[I q0, S q1, S q2, .slice c.1 r.length c.2.1, I q4, I q5, I q6, I q7, I q8, I q9, I q10, I q11, I q12, I q13] rfl (by simp [Value.oneCell'])
          exact ⟨rfl, _, f1, hW.st1 h5 hK⟩
        · have h6 : L 41 = true := hd 41 (by rfl)
          have hrr := (hW.rb h6).2
          rw [hL] at hrr
          have f1 : (Instr.storeAt 26 (ptr c.2.2.2) (.agg #[I p0, I p1, I p2, S p3, I p4, .bool p5, I p6, I p7, S p8])).run Tryz.prog W = .ok () (W.setRow c.2.2.2 #[I p0, I p1, I p2, S p3, I p4, .bool p5, I p6, I p7, S p8]) := st_all (T := 26) (n := 9) (fun _ => by kernel_rfl) (cs := #[I 0, I 0, I 0, S [], I 0, .bool false, I 0, I 0, S []]) hrr rfl #[I p0, I p1, I p2, S p3, I p4, .bool p5, I p6, I p7, S p8] rfl (by simp [Value.oneCell'])
          exact ⟨rfl, _, f1, hW.st2 h6⟩
      intro c L W8 hall hW
      obtain ⟨a8, cap8, pb8, qb8⟩ := c
      simp only [frmL, fb10T, fb10V, Act.put, List.setIfInBounds_toArray, List.set_cons_succ, List.set_cons_zero]
      have own8 := hW.own (hall 35 (by decide))
      obtain ⟨lp8, rp8⟩ := hW.ra (hall 40 (by decide))
      rw [hall 42 (by decide)] at rp8
      obtain ⟨lq8, rq8⟩ := hW.rb (hall 41 (by decide))
      rw [hall 43 (by decide)] at rq8
      have be8 := hW.be
      clear hall hW
      have rc := unhide H_rc
      have rg := unhide H_rg
      have hbw := unhide H_hbw
      have bk1 := unhide H_bk1
      have bk2 := unhide H_bk2
      have own7 := unhide H_own7
      have rp7 := unhide H_rp7
      have rq7 := unhide H_rq7
      clear H_rc H_rg H_hbw H_bk1 H_bk2 H_own7 H_rp7 H_rq7
      have rc := (be8.block _ (lt_of_row rc)).trans rc
      have rg := (be8.block _ (lt_of_row rg)).trans rg
      have hbw := hbw.trans (be8.mono hbw.size)
      have bk1 := bk1.keep be8
      have bk2 := bk2.keep be8
      have own7 := own7.below be8 (Nat.le_refl _)
      have rp7 := (be8.block _ (lt_of_row rp7)).trans rp7
      have rq7 := (be8.block _ (lt_of_row rq7)).trans rq7
      clear HX be8 lp8 lq8
      have rp8 : W8.heap[pb8]? = some (.cells #[I q0, S q1, S q2, .slice a8 r.length cap8, I q4, I q5, I q6, I q7, I q8, I q9, I q10, I q11, I q12, I q13] 24 (0, 0)) := rp8
      have rq8 : W8.heap[qb8]? = some (.cells #[I p0, I p1, I p2, S p3, I p4, .bool p5, I p6, I p7, S p8] 26 (0, 0)) := rq8
      have own8 : OwnS W7.heap.size W8 (.slice a8 r.length cap8) r := own8
      have d7_0 : W8.cell? ⟨pb7, 0, none⟩ = some (I q0) := cellr rp7 rfl
      have d7_1 : W8.cell? ⟨pb7, 1, none⟩ = some (S q1) := cellr rp7 rfl
      have d7_2 : W8.cell? ⟨pb7, 2, none⟩ = some (S q2) := cellr rp7 rfl
      have d7_3 : W8.cell? ⟨pb7, 3, none⟩ = some (.slice a7 r.length cap7) := cellr rp7 rfl
      have d7_4 : W8.cell? ⟨pb7, 4, none⟩ = some (I q4) := cellr rp7 rfl
      have d7_5 : W8.cell? ⟨pb7, 5, none⟩ = some (I q5) := cellr rp7 rfl
      have d7_6 : W8.cell? ⟨pb7, 6, none⟩ = some (I q6) := cellr rp7 rfl
      have d7_7 : W8.cell? ⟨pb7, 7, none⟩ = some (I q7) := cellr rp7 rfl
      have d7_8 : W8.cell? ⟨pb7, 8, none⟩ = some (I q8) := cellr rp7 rfl
      have d7_9 : W8.cell? ⟨pb7, 9, none⟩ = some (I q9) := cellr rp7 rfl
      have d7_10 : W8.cell? ⟨pb7, 10, none⟩ = some (I q10) := cellr rp7 rfl
      have d7_11 : W8.cell? ⟨pb7, 11, none⟩ = some (I q11) := cellr rp7 rfl
      have d7_12 : W8.cell? ⟨pb7, 12, none⟩ = some (I q12) := cellr rp7 rfl
      have d7_13 : W8.cell? ⟨pb7, 13, none⟩ = some (I q13) := cellr rp7 rfl
      have d8_0 : W8.cell? ⟨pb8, 0, none⟩ = some (I q0) := cellr rp8 rfl
      have d8_1 : W8.cell? ⟨pb8, 1, none⟩ = some (S q1) := cellr rp8 rfl
      have d8_2 : W8.cell? ⟨pb8, 2, none⟩ = some (S q2) := cellr rp8 rfl
      have d8_3 : W8.cell? ⟨pb8, 3, none⟩ = some (.slice a8 r.length cap8) := cellr rp8 rfl
      have d8_4 : W8.cell? ⟨pb8, 4, none⟩ = some (I q4) := cellr rp8 rfl
      have d8_5 : W8.cell? ⟨pb8, 5, none⟩ = some (I q5) := cellr rp8 rfl
      have d8_6 : W8.cell? ⟨pb8, 6, none⟩ = some (I q6) := cellr rp8 rfl
      have d8_7 : W8.cell? ⟨pb8, 7, none⟩ = some (I q7) := cellr rp8 rfl
      have d8_8 : W8.cell? ⟨pb8, 8, none⟩ = some (I q8) := cellr rp8 rfl
      have d8_9 : W8.cell? ⟨pb8, 9, none⟩ = some (I q9) := cellr rp8 rfl
      have d8_10 : W8.cell? ⟨pb8, 10, none⟩ = some (I q10) := cellr rp8 rfl
      have d8_11 : W8.cell? ⟨pb8, 11, none⟩ = some (I q11) := cellr rp8 rfl
      have d8_12 : W8.cell? ⟨pb8, 12, none⟩ = some (I q12) := cellr rp8 rfl
      have d8_13 : W8.cell? ⟨pb8, 13, none⟩ = some (I q13) := cellr rp8 rfl
      have HX := hide (sameFamily_same q0 q1 q2 r q4 q5 q6 q7 q8 q9 q10 q11 q12 q13 a7 a8 cap7 cap8 W8 own7.sts own8.sts (by omega))
      have H_rc := hide rc
      have H_rg := hide rg
      have H_hbw := hide hbw
      have H_bk1 := hide bk1
      have H_bk2 := hide bk2
      have H_own7 := hide own7
      have H_rp7 := hide rp7
      have H_rq7 := hide rq7
      have H_rq8 := hide rq8
      have H_own8 := hide own8
      have H_rp8 := hide rp8
      clear rc rg hbw bk1 bk2 own7 rp7 rq7 rq8 own8 rp8
      go_wp2_with fail
      refine (unhide HX).mono ?_
      rintro e w9 ⟨rfl, h9⟩
      have rc := unhide H_rc
      have rg := unhide H_rg
      have hbw := unhide H_hbw
      have bk1 := unhide H_bk1
      have bk2 := unhide H_bk2
      have own7 := unhide H_own7
      have rp7 := unhide H_rp7
      have rq7 := unhide H_rq7
      have rq8 := unhide H_rq8
      clear H_rc H_rg H_hbw H_bk1 H_bk2 H_own7 H_rp7 H_rq7 H_rq8
      have rc := (h9.block _ (lt_of_row rc)).trans rc
      have rg := (h9.block _ (lt_of_row rg)).trans rg
      have hbw := hbw.trans (h9.mono hbw.size)
      have bk1 := bk1.keep h9
      have bk2 := bk2.keep h9
      have own7 := own7.below h9 (Nat.le_refl _)
      have rp7 := (h9.block _ (lt_of_row rp7)).trans rp7
      have rq7 := (h9.block _ (lt_of_row rq7)).trans rq7
      have rq8 := (h9.block _ (lt_of_row rq8)).trans rq8
      clear HX h9 H_own8 H_rp8 d7_0 d8_0 d7_1 d8_1 d7_2 d8_2 d7_3 d8_3 d7_4 d8_4 d7_5 d8_5 d7_6 d8_6 d7_7 d8_7 d7_8 d8_8 d7_9 d8_9 d7_10 d8_10 d7_11 d8_11 d7_12 d8_12 d7_13 d8_13
      have d7_3 : w9.cell? ⟨pb7, 3, none⟩ = some (.slice a7 r.length cap7) := cellr rp7 rfl
      have HX := hide (over_any a7 cap7 r w9 (row_own own7) hr)
      have H_rc := hide rc
      have H_rg := hide rg
      have H_hbw := hide hbw
      have H_bk1 := hide bk1
      have H_bk2 := hide bk2
      have H_own7 := hide own7
      have H_rq7 := hide rq7
      have H_rq8 := hide rq8
      clear rc rg hbw bk1 bk2 own7 rq7 rq8
      clear rp7
      go_wp2_with fail
      refine (unhide HX).mono ?_
      rintro e w10 ⟨rfl, ho⟩
      have rc := unhide H_rc
      have rg := unhide H_rg
      have hbw := unhide H_hbw
      have bk1 := unhide H_bk1
      have bk2 := unhide H_bk2
      have own7 := unhide H_own7
      have rq7 := unhide H_rq7
      have rq8 := unhide H_rq8
      clear H_rc H_rg H_hbw H_bk1 H_bk2 H_own7 H_rq7 H_rq8
      have rc := only_row ho rc (own_ne own7 (by omega))
      have rg := only_row ho rg (own_ne own7 (by omega))
      have bk1 : Blk lb (sd ++ [spare, spare]) w10 := only_row ho (show w9.heap[lb]? = some (.cells (cellsS (sd ++ [spare, spare])) 9 (0, 0)) from bk1) (own_ne own7 (by omega))
      have bk2 : Blk ls (sc ++ [spare, spare]) w10 := only_row ho (show w9.heap[ls]? = some (.cells (cellsS (sc ++ [spare, spare])) 9 (0, 0)) from bk2) (own_ne own7 (by omega))
      have rq7 := only_row ho rq7 (own_ne2 own7 rq7 (by decide))
      have rq8 := only_row ho rq8 (own_ne2 own7 rq8 (by decide))
      have hbw := ho.below hbw hbw.size (fun q e => by have := (World.ownsRow.lt own7 q e).1; omega)
      have hV := unhide H_hV
      clear H_hV
      have c16 : w10.cell? ⟨g, k * 17 + 16, none⟩ = some (.slice va sc.length vc) := part17 rg hV rfl (j := 16) rfl
      clear HX ho own7 d7_3
      have HX := hide (unhide HW2 w10 hbw ls bk2)
      have H_rc := hide rc
      have H_rg := hide rg
      have H_hbw := hide hbw
      have H_bk1 := hide bk1
      have H_rq7 := hide rq7
      have H_rq8 := hide rq8
      have H_hV := hide hV
      clear rc rg hbw bk1 rq7 rq8 hV
      clear bk2 HW2
      go_wp2_with fail
      refine (unhide HX).mono ?_
      rintro e w11 ⟨rfl, h11⟩
      have rc := unhide H_rc
      have rg := unhide H_rg
      have hbw := unhide H_hbw
      have bk1 := unhide H_bk1
      have rq7 := unhide H_rq7
      have rq8 := unhide H_rq8
      clear H_rc H_rg H_hbw H_bk1 H_rq7 H_rq8
      have rc := (h11.block _ (lt_of_row rc)).trans rc
      have rg := (h11.block _ (lt_of_row rg)).trans rg
      have hbw := hbw.trans (h11.mono hbw.size)
      have bk1 := bk1.keep h11
      have rq7 := (h11.block _ (lt_of_row rq7)).trans rq7
      have rq8 := (h11.block _ (lt_of_row rq8)).trans rq8
      clear HX h11 c16
      have HX : Hid (∀ W, Below w11.heap.size w11 W → Calls Tryz.prog 24 #[.slice (some ⟨lb, 0, none⟩) sd.length (sd.length + 2), .slice vb sd.length vd] W fun e w' => e = .returned (.bool true) ∧ Below W.heap.size W w') := hide (fun W h => unhide HW1 W (hbw.trans (h.mono hbw.size)) lb (bk1.keep h))
      have H_rc := hide rc
      have H_rg := hide rg
      have H_hbw := hide hbw
      have H_rq7 := hide rq7
      have H_rq8 := hide rq8
      clear rc rg hbw rq7 rq8
      clear bk1 HW1
      go_upto_region 14 with fail
      refine region_tabX fb14T [(8, ptr wr.heap.size), (6, .slice (some ⟨g, 0, none⟩) 3 3), (7, I (k : Int))] 169 [0, 2, 3, 5, 6, 9] (fb14V wr.heap.size g (k * 17) (k : Int) (.slice (some ⟨lb, 0, none⟩) sd.length (sd.length + 2)) (.slice vb sd.length vd)) rfl (by rfl) (by rfl) rfl (fun c w => by kernel_rfl) _ w11 (Nat.le_of_ble_eq_true rfl) rfl (fun _ _ W => Below w11.heap.size w11 W) ⟨(), (Below.refl _ _).drew⟩ (fun i hi c L W hW => hW) ?spc ?_
      case spc =>
        intro i hi hp c L W hW hL hd
        rcases (by simp [fb14T] at hi hp; omega : i = 1 ∨ i = 4 ∨ i = 7 ∨ i = 8) with rfl | rfl | rfl | rfl
        · have rcW := (hW.block _ (lt_of_row (unhide H_rc))).trans (unhide H_rc)
          have f1 : (Instr.loadAt 22 (.pointer (some ⟨wr.heap.size, 6, none⟩))).run Tryz.prog W = .ok (.slice (some ⟨lb, 0, none⟩) sd.length (sd.length + 2)) W := s_ld (T := 22) (fun _ => by kernel_rfl) (cellr rcW rfl)
          exact ⟨f1, hW⟩
        · exact ⟨⟨_, rfl, s_ix51 g k hlt⟩, hW⟩
        · have rgW := (hW.block _ (lt_of_row (unhide H_rg))).trans (unhide H_rg)
          have f1 : (Instr.loadAt 22 (.pointer (some ⟨g, k * 17 + 3 + 6, none⟩))).run Tryz.prog W = .ok (.slice vb sd.length vd) W := s_ld (T := 22) (fun _ => by kernel_rfl) (part17 rgW (unhide H_hV) rfl (j := 9) rfl)
          exact ⟨f1, hW⟩
        · exact ⟨⟨_, _, Tryz.func24, by kernel_rfl, rfl⟩, (unhide HX W hW).mono fun e w' q => ⟨c, fun _ _ => rfl, q.1, hW.trans (q.2.mono hW.size)⟩⟩
      intro c L W12 hall hW
      simp only [frmL, fb14T, fb14V, Act.put, List.setIfInBounds_toArray, List.set_cons_succ, List.set_cons_zero]
      have rg := unhide H_rg
      have hbw := unhide H_hbw
      have rq7 := unhide H_rq7
      have rq8 := unhide H_rq8
      clear H_rg H_hbw H_rq7 H_rq8
      have rg := (hW.block _ (lt_of_row rg)).trans rg
      have hbw := hbw.trans (hW.mono hbw.size)
      have rq7 := (hW.block _ (lt_of_row rq7)).trans rq7
      have rq8 := (hW.block _ (lt_of_row rq8)).trans rq8
      clear HX hall hW H_rc
      have d7_0 : W12.cell? ⟨qb7, 0, none⟩ = some (I p0) := cellr rq7 rfl
      have d7_1 : W12.cell? ⟨qb7, 1, none⟩ = some (I p1) := cellr rq7 rfl
      have d7_2 : W12.cell? ⟨qb7, 2, none⟩ = some (I p2) := cellr rq7 rfl
      have d7_3 : W12.cell? ⟨qb7, 3, none⟩ = some (S p3) := cellr rq7 rfl
      have d7_4 : W12.cell? ⟨qb7, 4, none⟩ = some (I p4) := cellr rq7 rfl
      have d7_5 : W12.cell? ⟨qb7, 5, none⟩ = some (.bool p5) := cellr rq7 rfl
      have d7_6 : W12.cell? ⟨qb7, 6, none⟩ = some (I p6) := cellr rq7 rfl
      have d7_7 : W12.cell? ⟨qb7, 7, none⟩ = some (I p7) := cellr rq7 rfl
      have d7_8 : W12.cell? ⟨qb7, 8, none⟩ = some (S p8) := cellr rq7 rfl
      have d8_0 : W12.cell? ⟨qb8, 0, none⟩ = some (I p0) := cellr rq8 rfl
      have d8_1 : W12.cell? ⟨qb8, 1, none⟩ = some (I p1) := cellr rq8 rfl
      have d8_2 : W12.cell? ⟨qb8, 2, none⟩ = some (I p2) := cellr rq8 rfl
      have d8_3 : W12.cell? ⟨qb8, 3, none⟩ = some (S p3) := cellr rq8 rfl
      have d8_4 : W12.cell? ⟨qb8, 4, none⟩ = some (I p4) := cellr rq8 rfl
      have d8_5 : W12.cell? ⟨qb8, 5, none⟩ = some (.bool p5) := cellr rq8 rfl
      have d8_6 : W12.cell? ⟨qb8, 6, none⟩ = some (I p6) := cellr rq8 rfl
      have d8_7 : W12.cell? ⟨qb8, 7, none⟩ = some (I p7) := cellr rq8 rfl
      have d8_8 : W12.cell? ⟨qb8, 8, none⟩ = some (S p8) := cellr rq8 rfl
      have f1 := ne26s p0 p1 p2 p3 p4 p5 p6 p7 p8
      have H_rg := hide rg
      have H_hbw := hide hbw
      clear rg hbw
      clear rq7 rq8
      go_wp2
      refine ⟨⟨k + 1, by omega, by go_num, unhide H_hbw, unhide H_rg⟩, ?_⟩
      simp [Go.RowKit.intOf]
      omega
    · have hk3 : k = 3 := by omega
      subst hk3
      have HBW := hide hbw
      clear hbw hrow
      have hd : ¬ ((3 : Nat) : Int) < 3 := by omega
      go_wp2
      go_ret
      exact ⟨rfl, unhide HBW⟩
end Go.Proofs.YtmjaobddgaglhaaGreatDoor
