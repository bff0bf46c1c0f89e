import Derived.Test.YtpidmpefodnffaaGreatDoorZorp
import Derived.Test.YtpidmpefodnffaaGreatDoorPxf
import Derived.Test.YtpidmpefodnffaaGreatDoorPxc
import Derived.Test.YtpidmpefodnffaaGreatDoorZidx
import Derived.Deep.Cut
import Derived.Deep.CutRange
namespace Go.Proofs.YtpidmpefodnffaaGreatDoor
open Go.RowKit
set_option maxHeartbeats 8000000
set_option maxRecDepth 20000
/-- What is kept of RecordOrder's four boxes. -/
structure Od (w : World) (ca cb ct cu : Array Value) (W : World) : Prop where
  bel : Below w.heap.size w W
  ra : W.heap[w.heap.size]? = some (.cells ca 40 (0, 0))
  rb : W.heap[w.heap.size + 1]? = some (.cells cb 40 (0, 0))
  rt : W.heap[w.heap.size + 1 + 1]? = some (.cells ct 58 (0, 0))
  ru : W.heap[w.heap.size + 1 + 1 + 1]? = some (.cells cu 58 (0, 0))
theorem Od.go {w : World} {ca cb ct cu : Array Value} {W W' : World} (h : Od w ca cb ct cu W) (hb : Below W.heap.size W W') : Od w ca cb ct cu W' :=
  ⟨h.bel.trans (hb.mono h.bel.size), (hb.block _ (lt_of_row h.ra)).trans h.ra, (hb.block _ (lt_of_row h.rb)).trans h.rb, (hb.block _ (lt_of_row h.rt)).trans h.rt, (hb.block _ (lt_of_row h.ru)).trans h.ru⟩
theorem Od.new (w : World) (ca cb ct cu : Array Value) : Od w ca cb ct cu ((((w.alloc (.cells ca 40)).alloc (.cells cb 40)).alloc (.cells ct 58)).alloc (.cells cu 58)) := by
  have e1 := heap_alloc_new w (.cells ca 40)
  have e2 := heap_alloc_new (w.alloc (.cells ca 40)) (.cells cb 40)
  have e3 := heap_alloc_new ((w.alloc (.cells ca 40)).alloc (.cells cb 40)) (.cells ct 58)
  have e4 := heap_alloc_new (((w.alloc (.cells ca 40)).alloc (.cells cb 40)).alloc (.cells ct 58)) (.cells cu 58)
  refine ⟨((((Below.refl _ w).alloc (Nat.le_refl _) _).alloc (by simp) _).alloc (by simp; omega) _).alloc (by simp; omega) _, ?_, ?_, ?_, ?_⟩
  · rw [heap_alloc_old _ _ (by simp; omega), heap_alloc_old _ _ (by simp; omega), heap_alloc_old _ _ (by simp)]; exact e1
  · rw [heap_alloc_old _ _ (by simp), heap_alloc_old _ _ (by simp)]; simpa using e2
  · rw [heap_alloc_old _ _ (by simp)]; simpa using e3
  · simpa using e4
theorem al30 (w : World) (x y : Bs) : Below w.heap.size w (w.alloc (.cells #[S x, S y] 30)) := (Below.refl _ _).alloc (Nat.le_refl _) _
theorem recordOrder_any (id1 : Int) (cl1 su1 : Bs) (va1 : Option Addr) (vc1 : Nat) (sc1 : List Bs) (cr1 us1 il1 ab1 gr1 ge1 to1 st1 en1 co1 : Int) (id2 : Int) (cl2 su2 : Bs) (va2 : Option Addr) (vc2 : Nat) (sc2 : List Bs) (cr2 us2 il2 ab2 gr2 ge2 to2 st2 en2 co2 : Int) (id3 fa3 ge3 : Int) (ha3 : Bs) (mi3 : Int) (sp3 : Bool) (at3 ne3 : Int) (se3 : Bs) (id4 fa4 ge4 : Int) (ha4 : Bs) (mi4 : Int) (sp4 : Bool) (at4 ne4 : Int) (se4 : Bs) (w : World) (hcl1 : cl1.length ≤ 9223372036854775807) (hsu1 : su1.length ≤ 9223372036854775807) (hsc1 : Sts w va1 sc1.length sc1) (hsl1 : sc1.length ≤ 140737488355000) (hln1 : Lns sc1) (hcl2 : cl2.length ≤ 9223372036854775807) (hsu2 : su2.length ≤ 9223372036854775807) (hsc2 : Sts w va2 sc2.length sc2) (hsl2 : sc2.length ≤ 140737488355000) (hln2 : Lns sc2) : Calls Tryz.prog 9 #[.agg #[I id1, S cl1, S su1, .slice va1 sc1.length vc1, I cr1, I us1, I il1, I ab1, I gr1, I ge1, I to1, I st1, I en1, I co1], .agg #[I id2, S cl2, S su2, .slice va2 sc2.length vc2, I cr2, I us2, I il2, I ab2, I gr2, I ge2, I to2, I st2, I en2, I co2], .agg #[I id3, I fa3, I ge3, S ha3, I mi3, .bool sp3, I at3, I ne3, S se3], .agg #[I id4, I fa4, I ge4, S ha4, I mi4, .bool sp4, I at4, I ne4, S se4]] w fun e w' => e = .returned (.bool true) ∧ Below w.heap.size w w' := by
  have H0 := hide (Od.new w #[I id1, S cl1, S su1, .slice va1 sc1.length vc1, I cr1, I us1, I il1, I ab1, I gr1, I ge1, I to1, I st1, I en1, I co1] #[I id2, S cl2, S su2, .slice va2 sc2.length vc2, I cr2, I us2, I il2, I ab2, I gr2, I ge2, I to2, I st2, I en2, I co2] #[I id3, I fa3, I ge3, S ha3, I mi3, .bool sp3, I at3, I ne3, S se3] #[I id4, I fa4, I ge4, S ha4, I mi4, .bool sp4, I at4, I ne4, S se4])
  have HA := hide (awake_any ((((w.alloc (.cells #[I id1, S cl1, S su1, .slice va1 sc1.length vc1, I cr1, I us1, I il1, I ab1, I gr1, I ge1, I to1, I st1, I en1, I co1] 40)).alloc (.cells #[I id2, S cl2, S su2, .slice va2 sc2.length vc2, I cr2, I us2, I il2, I ab2, I gr2, I ge2, I to2, I st2, I en2, I co2] 40)).alloc (.cells #[I id3, I fa3, I ge3, S ha3, I mi3, .bool sp3, I at3, I ne3, S se3] 58)).alloc (.cells #[I id4, I fa4, I ge4, S ha4, I mi4, .bool sp4, I at4, I ne4, S se4] 58)))
  have HS1 := hide (fun W (q : Below w.heap.size w W) => (⟨hcl1, hsu1, Sts.bel hsc1 q, hsl1, hln1⟩ : cl1.length ≤ 9223372036854775807 ∧ su1.length ≤ 9223372036854775807 ∧ Sts W va1 sc1.length sc1 ∧ sc1.length ≤ 140737488355000 ∧ Lns sc1))
  have HS2 := hide (fun W (q : Below w.heap.size w W) => (⟨hcl2, hsu2, Sts.bel hsc2 q, hsl2, hln2⟩ : cl2.length ≤ 9223372036854775807 ∧ su2.length ≤ 9223372036854775807 ∧ Sts W va2 sc2.length sc2 ∧ sc2.length ≤ 140737488355000 ∧ Lns sc2))
  clear hcl1 hsu1 hsc1 hsl1 hln1 hcl2 hsu2 hsc2 hsl2 hln2
  generalize hW0 : ((((w.alloc (.cells #[I id1, S cl1, S su1, .slice va1 sc1.length vc1, I cr1, I us1, I il1, I ab1, I gr1, I ge1, I to1, I st1, I en1, I co1] 40)).alloc (.cells #[I id2, S cl2, S su2, .slice va2 sc2.length vc2, I cr2, I us2, I il2, I ab2, I gr2, I ge2, I to2, I st2, I en2, I co2] 40)).alloc (.cells #[I id3, I fa3, I ge3, S ha3, I mi3, .bool sp3, I at3, I ne3, S se3] 58)).alloc (.cells #[I id4, I fa4, I ge4, S ha4, I mi4, .bool sp4, I at4, I ne4, S se4] 58)) = W0 at *
  go_enter Tryz.func9, Tryz.ntmps9
  go_wp2_with fail
  refine (unhide HA).mono ?_
  rintro e w1 ⟨rfl, hb⟩
  have H1 := hide ((unhide H0).go hb)
  clear hb HA H0 hW0
  have a0 : w1.cell? ⟨w.heap.size, 0, none⟩ = some (I id1) := cellr (unhide H1).ra rfl
  have a1 : w1.cell? ⟨w.heap.size, 1, none⟩ = some (S cl1) := cellr (unhide H1).ra rfl
  have a2 : w1.cell? ⟨w.heap.size, 2, none⟩ = some (S su1) := cellr (unhide H1).ra rfl
  have a3 : w1.cell? ⟨w.heap.size, 3, none⟩ = some (.slice va1 sc1.length vc1) := cellr (unhide H1).ra rfl
  have a4 : w1.cell? ⟨w.heap.size, 4, none⟩ = some (I cr1) := cellr (unhide H1).ra rfl
  have a5 : w1.cell? ⟨w.heap.size, 5, none⟩ = some (I us1) := cellr (unhide H1).ra rfl
  have a6 : w1.cell? ⟨w.heap.size, 6, none⟩ = some (I il1) := cellr (unhide H1).ra rfl
  have a7 : w1.cell? ⟨w.heap.size, 7, none⟩ = some (I ab1) := cellr (unhide H1).ra rfl
  have a8 : w1.cell? ⟨w.heap.size, 8, none⟩ = some (I gr1) := cellr (unhide H1).ra rfl
  have a9 : w1.cell? ⟨w.heap.size, 9, none⟩ = some (I ge1) := cellr (unhide H1).ra rfl
  have a10 : w1.cell? ⟨w.heap.size, 10, none⟩ = some (I to1) := cellr (unhide H1).ra rfl
  have a11 : w1.cell? ⟨w.heap.size, 11, none⟩ = some (I st1) := cellr (unhide H1).ra rfl
  have a12 : w1.cell? ⟨w.heap.size, 12, none⟩ = some (I en1) := cellr (unhide H1).ra rfl
  have a13 : w1.cell? ⟨w.heap.size, 13, none⟩ = some (I co1) := cellr (unhide H1).ra rfl
  have q1 := unhide HS1 w1 (unhide H1).bel
  have X1 := hide (Print19 id1 cl1 su1 va1 vc1 sc1 cr1 us1 il1 ab1 gr1 ge1 to1 st1 en1 co1 w1 q1.1 q1.2.1 q1.2.2.1 q1.2.2.2.1 q1.2.2.2.2)
  clear q1
  generalize hp1 : famP id1 cl1 su1 sc1 cr1 us1 il1 ab1 gr1 ge1 to1 st1 en1 co1 = p1 at *
  have HP1 := hide hp1
  clear hp1
  go_wp2_with fail
  refine (unhide X1).mono ?_
  rintro e w2 ⟨rfl, hb⟩
  have H2 := hide (((unhide H1).go hb).go (al30 w2 p1.1.1 p1.1.2))
  have r1 := heap_alloc_new w2 (.cells #[S p1.1.1, S p1.1.2] 30)
  generalize hW2 : w2.alloc (.cells #[S p1.1.1, S p1.1.2] 30) = W2 at *
  have R1 := hide r1
  clear r1 hb X1 H1 a0 a1 a2 a3 a4 a5 a6 a7 a8 a9 a10 a11 a12 a13
  have b0 : W2.cell? ⟨w.heap.size + 1, 0, none⟩ = some (I id2) := cellr (unhide H2).rb rfl
  have b1 : W2.cell? ⟨w.heap.size + 1, 1, none⟩ = some (S cl2) := cellr (unhide H2).rb rfl
  have b2 : W2.cell? ⟨w.heap.size + 1, 2, none⟩ = some (S su2) := cellr (unhide H2).rb rfl
  have b3 : W2.cell? ⟨w.heap.size + 1, 3, none⟩ = some (.slice va2 sc2.length vc2) := cellr (unhide H2).rb rfl
  have b4 : W2.cell? ⟨w.heap.size + 1, 4, none⟩ = some (I cr2) := cellr (unhide H2).rb rfl
  have b5 : W2.cell? ⟨w.heap.size + 1, 5, none⟩ = some (I us2) := cellr (unhide H2).rb rfl
  have b6 : W2.cell? ⟨w.heap.size + 1, 6, none⟩ = some (I il2) := cellr (unhide H2).rb rfl
  have b7 : W2.cell? ⟨w.heap.size + 1, 7, none⟩ = some (I ab2) := cellr (unhide H2).rb rfl
  have b8 : W2.cell? ⟨w.heap.size + 1, 8, none⟩ = some (I gr2) := cellr (unhide H2).rb rfl
  have b9 : W2.cell? ⟨w.heap.size + 1, 9, none⟩ = some (I ge2) := cellr (unhide H2).rb rfl
  have b10 : W2.cell? ⟨w.heap.size + 1, 10, none⟩ = some (I to2) := cellr (unhide H2).rb rfl
  have b11 : W2.cell? ⟨w.heap.size + 1, 11, none⟩ = some (I st2) := cellr (unhide H2).rb rfl
  have b12 : W2.cell? ⟨w.heap.size + 1, 12, none⟩ = some (I en2) := cellr (unhide H2).rb rfl
  have b13 : W2.cell? ⟨w.heap.size + 1, 13, none⟩ = some (I co2) := cellr (unhide H2).rb rfl
  have q1 := unhide HS2 W2 (unhide H2).bel
  have X1 := hide (Print19 id2 cl2 su2 va2 vc2 sc2 cr2 us2 il2 ab2 gr2 ge2 to2 st2 en2 co2 W2 q1.1 q1.2.1 q1.2.2.1 q1.2.2.2.1 q1.2.2.2.2)
  clear q1
  generalize hp2 : famP id2 cl2 su2 sc2 cr2 us2 il2 ab2 gr2 ge2 to2 st2 en2 co2 = p2 at *
  have HP2 := hide hp2
  clear hp2
  go_wp2_with fail
  refine (unhide X1).mono ?_
  rintro e w3 ⟨rfl, hb⟩
  have hb' := hb.trans ((al30 w3 p2.1.1 p2.1.2).mono hb.size)
  have H3 := hide ((unhide H2).go hb')
  have R2 := hide (heap_alloc_new w3 (.cells #[S p2.1.1, S p2.1.2] 30))
  have R1' := hide ((hb'.block _ (lt_of_row (unhide R1))).trans (unhide R1))
  clear hb hb' X1 H2 b0 b1 b2 b3 b4 b5 b6 b7 b8 b9 b10 b11 b12 b13 hW2 R1
  generalize hW3 : w3.alloc (.cells #[S p2.1.1, S p2.1.2] 30) = W3 at *
  have K1 : (famOK id1 cl1 su1 sc1 cr1 us1 il1 ab1 gr1 ge1 to1 st1 en1 co1 = true ∧ p1 = ((cat (lx (famKl id1 cl1 su1 sc1 cr1 us1 il1 ab1 gr1 ge1 to1 st1 en1 co1)) 2, cat (lx (famVl id1 cl1 su1 sc1 cr1 us1 il1 ab1 gr1 ge1 to1 st1 en1 co1)) 13), 0)) ∨ (famOK id1 cl1 su1 sc1 cr1 us1 il1 ab1 gr1 ge1 to1 st1 en1 co1 = false ∧ p1 = (([], []), 140)) := by
    rw [← unhide HP1]; unfold famP; split
    · exact .inl ⟨by assumption, rfl⟩
    · exact .inr ⟨by simpa using (by assumption : ¬ famOK id1 cl1 su1 sc1 cr1 us1 il1 ab1 gr1 ge1 to1 st1 en1 co1 = true), rfl⟩
  have K2 : (famOK id2 cl2 su2 sc2 cr2 us2 il2 ab2 gr2 ge2 to2 st2 en2 co2 = true ∧ p2 = ((cat (lx (famKl id2 cl2 su2 sc2 cr2 us2 il2 ab2 gr2 ge2 to2 st2 en2 co2)) 2, cat (lx (famVl id2 cl2 su2 sc2 cr2 us2 il2 ab2 gr2 ge2 to2 st2 en2 co2)) 13), 0)) ∨ (famOK id2 cl2 su2 sc2 cr2 us2 il2 ab2 gr2 ge2 to2 st2 en2 co2 = false ∧ p2 = (([], []), 140)) := by
    rw [← unhide HP2]; unfold famP; split
    · exact .inl ⟨by assumption, rfl⟩
    · exact .inr ⟨by simpa using (by assumption : ¬ famOK id2 cl2 su2 sc2 cr2 us2 il2 ab2 gr2 ge2 to2 st2 en2 co2 = true), rfl⟩
  have K1 := hide K1
  have K2 := hide K2
  clear HP1 HP2
  go_upto_region 4 with fail
  clear hW3
  go_cut [57] from 52 to 57 (fun v wc => v = .bool (famOK id1 cl1 su1 sc1 cr1 us1 il1 ab1 gr1 ge1 to1 st1 en1 co1 && famOK id2 cl2 su2 sc2 cr2 us2 il2 ab2 gr2 ge2 to2 st2 en2 co2) ∧ wc = W3)
  case first =>
    rcases unhide K1 with ⟨o1, rfl⟩ | ⟨o1, rfl⟩ <;> rcases unhide K2 with ⟨o2, rfl⟩ | ⟨o2, rfl⟩ <;> (clear K1 K2 R1' R2 H3 HS1 HS2; go_wp2; go_meet; exact ⟨by rw [o1, o2]; rfl, rfl⟩)
  case rest =>
  obtain ⟨rfl, hwc⟩ := hcut
  rw [hwc]
  clear hwc
  generalize hbb : (famOK id1 cl1 su1 sc1 cr1 us1 il1 ab1 gr1 ge1 to1 st1 en1 co1 && famOK id2 cl2 su2 sc2 cr2 us2 il2 ab2 gr2 ge2 to2 st2 en2 co2) = bb at *
  have HBB := hide hbb
  clear hbb
  go_upto_if 57 with fail
  go_cut [14, 15, 16, 17, 18, 19, 20, 21, 22, 23, 24, 25, 26, 27, 28, 29] from 58 to 196 (fun _ _ _ _ _ _ _ _ _ _ _ _ _ _ _ _ wc => Od w #[I id1, S cl1, S su1, .slice va1 sc1.length vc1, I cr1, I us1, I il1, I ab1, I gr1, I ge1, I to1, I st1, I en1, I co1] #[I id2, S cl2, S su2, .slice va2 sc2.length vc2, I cr2, I us2, I il2, I ab2, I gr2, I ge2, I to2, I st2, I en2, I co2] #[I id3, I fa3, I ge3, S ha3, I mi3, .bool sp3, I at3, I ne3, S se3] #[I id4, I fa4, I ge4, S ha4, I mi4, .bool sp4, I at4, I ne4, S se4] wc)
  case first =>
    rcases unhide K1 with ⟨o1, e1⟩ | ⟨o1, e1⟩
    rotate_left
    · obtain rfl : bb = false := by rw [← unhide HBB, o1]; rfl
      clear K1 K2 R1' R2 HS1 HS2 o1 e1 HBB
      go_wp2
      go_meet
      exact unhide H3
    rcases unhide K2 with ⟨o2, e2⟩ | ⟨o2, e2⟩
    rotate_left
    · obtain rfl : bb = false := by rw [← unhide HBB, o1, o2]; rfl
      clear K1 K2 R1' R2 HS1 HS2 o1 e1 o2 e2 HBB
      go_wp2
      go_meet
      exact unhide H3
    obtain rfl : bb = true := by rw [← unhide HBB, o1, o2]; rfl
    clear HBB
    subst e1 e2
    have N1 := hide (show endOK (endV cr1 us1 il1 ab1 st1 en1) id1 = true ∧ subOK su1 id1 = true from ⟨fam_end o1, fam_sub o1⟩)
    have N2 := hide (show endOK (endV cr2 us2 il2 ab2 st2 en2) id2 = true ∧ subOK su2 id2 = true from ⟨fam_end o2, fam_sub o2⟩)
    have D1 : Hid ((cat (lx (famKl id1 cl1 su1 sc1 cr1 us1 il1 ab1 gr1 ge1 to1 st1 en1 co1)) 2 < cat (lx (famKl id2 cl2 su2 sc2 cr2 us2 il2 ab2 gr2 ge2 to2 st2 en2 co2)) 2) ↔ id1 < id2) := hide (lt_one 102 id1 id2 (by have := endB (unhide N1).1; omega) (by have := endB (unhide N2).1; omega))
    have XF1 := hide (fun W (q : Below w.heap.size w W) => OfFamily_any id1 cl1 su1 va1 vc1 sc1 cr1 us1 il1 ab1 gr1 ge1 to1 st1 en1 co1 W (unhide HS1 W q).1 (unhide HS1 W q).2.1 (unhide HS1 W q).2.2.1 (unhide HS1 W q).2.2.2.1 (unhide HS1 W q).2.2.2.2)
    have XF2 := hide (fun W (q : Below w.heap.size w W) => OfFamily_any id2 cl2 su2 va2 vc2 sc2 cr2 us2 il2 ab2 gr2 ge2 to2 st2 en2 co2 W (unhide HS2 W q).1 (unhide HS2 W q).2.1 (unhide HS2 W q).2.2.1 (unhide HS2 W q).2.2.2.1 (unhide HS2 W q).2.2.2.2)
    have XE1 := hide (fun W => End_any id1 cl1 su1 va1 vc1 sc1 cr1 us1 il1 ab1 gr1 ge1 to1 st1 en1 co1 W)
    have XE2 := hide (fun W => End_any id2 cl2 su2 va2 vc2 sc2 cr2 us2 il2 ab2 gr2 ge2 to2 st2 en2 co2 W)
    have D2 := hide (lt_end _ _ _ _ (unhide N1).1 (unhide N2).1)
    have D3 : Hid (su1 = su2 → (cat (lx (subKl su1 id1)) 4 < cat (lx (subKl su2 id2)) 4 ↔ id1 < id2)) := hide (fun q => by
      have z := (unhide N2).2
      rw [← q] at z ⊢
      exact lt_sub _ _ _ (unhide N1).2 z)
    have I1 := hide (idx_end (unhide N1).1)
    have I2 := hide (idx_sub (unhide N1).2)
    have L1 : Hid ((cat (lx (endKl (endV cr1 us1 il1 ab1 st1 en1) id1)) 3).length ≤ 1000 ∧ (cat (lx (endVl (endV cr1 us1 il1 ab1 st1 en1) id1)) 0).length ≤ 1000 ∧ (cat (lx (subKl su1 id1)) 4).length ≤ 1000 ∧ (cat (lx (subVl su1 id1)) 0).length ≤ 1000) := hide (by
      have := subB (unhide N1).2
      simp [cat, lx, endKl, subKl, be_len]
      omega)
    simp only [o1, o2] at XF1 XF2
    clear K1 K2 N1 N2 HS1 HS2
    generalize cat (lx (endKl (endV cr1 us1 il1 ab1 st1 en1) id1)) 3 = ek1 at *
    generalize cat (lx (endKl (endV cr2 us2 il2 ab2 st2 en2) id2)) 3 = ek2 at *
    generalize cat (lx (endVl (endV cr1 us1 il1 ab1 st1 en1) id1)) 0 = ev1 at *
    generalize cat (lx (endVl (endV cr2 us2 il2 ab2 st2 en2) id2)) 0 = ev2 at *
    generalize cat (lx (subKl su1 id1)) 4 = sk1 at *
    generalize cat (lx (subKl su2 id2)) 4 = sk2 at *
    generalize cat (lx (subVl su1 id1)) 0 = sv1 at *
    generalize cat (lx (subVl su2 id2)) 0 = sv2 at *
    generalize (endV cr1 us1 il1 ab1 st1 en1) = m at *
    generalize (endV cr2 us2 il2 ab2 st2 en2) = n at *
    have X1 := hide (unhide XF1 W3 (unhide H3).bel)
    have a0 : W3.cell? ⟨w.heap.size, 0, none⟩ = some (I id1) := cellr (unhide H3).ra rfl
    have a1 : W3.cell? ⟨w.heap.size, 1, none⟩ = some (S cl1) := cellr (unhide H3).ra rfl
    have a2 : W3.cell? ⟨w.heap.size, 2, none⟩ = some (S su1) := cellr (unhide H3).ra rfl
    have a3 : W3.cell? ⟨w.heap.size, 3, none⟩ = some (.slice va1 sc1.length vc1) := cellr (unhide H3).ra rfl
    have a4 : W3.cell? ⟨w.heap.size, 4, none⟩ = some (I cr1) := cellr (unhide H3).ra rfl
    have a5 : W3.cell? ⟨w.heap.size, 5, none⟩ = some (I us1) := cellr (unhide H3).ra rfl
    have a6 : W3.cell? ⟨w.heap.size, 6, none⟩ = some (I il1) := cellr (unhide H3).ra rfl
    have a7 : W3.cell? ⟨w.heap.size, 7, none⟩ = some (I ab1) := cellr (unhide H3).ra rfl
    have a8 : W3.cell? ⟨w.heap.size, 8, none⟩ = some (I gr1) := cellr (unhide H3).ra rfl
    have a9 : W3.cell? ⟨w.heap.size, 9, none⟩ = some (I ge1) := cellr (unhide H3).ra rfl
    have a10 : W3.cell? ⟨w.heap.size, 10, none⟩ = some (I to1) := cellr (unhide H3).ra rfl
    have a11 : W3.cell? ⟨w.heap.size, 11, none⟩ = some (I st1) := cellr (unhide H3).ra rfl
    have a12 : W3.cell? ⟨w.heap.size, 12, none⟩ = some (I en1) := cellr (unhide H3).ra rfl
    have a13 : W3.cell? ⟨w.heap.size, 13, none⟩ = some (I co1) := cellr (unhide H3).ra rfl
    clear o1 o2 XF1
    simp only at R1' R2
    generalize cat (lx (famKl id1 cl1 su1 sc1 cr1 us1 il1 ab1 gr1 ge1 to1 st1 en1 co1)) 2 = fk1 at *
    generalize cat (lx (famKl id2 cl2 su2 sc2 cr2 us2 il2 ab2 gr2 ge2 to2 st2 en2 co2)) 2 = fk2 at *
    generalize cat (lx (famVl id1 cl1 su1 sc1 cr1 us1 il1 ab1 gr1 ge1 to1 st1 en1 co1)) 13 = fv1 at *
    generalize cat (lx (famVl id2 cl2 su2 sc2 cr2 us2 il2 ab2 gr2 ge2 to2 st2 en2 co2)) 13 = fv2 at *
    go_wp2_with fail
    refine (unhide X1).mono ?_
    rintro e w4 ⟨⟨P, rfl, hrow⟩, hb⟩
    have H4 := hide ((unhide H3).go hb)
    have R1 := hide ((hb.block _ (lt_of_row (unhide R1'))).trans (unhide R1'))
    have R2' := hide ((hb.block _ (lt_of_row (unhide R2))).trans (unhide R2))
    have RP := hide hrow
    clear hrow hb R1' R2 H3 X1 a0 a1 a2 a3 a4 a5 a6 a7 a8 a9 a10 a11 a12 a13
    have b0 : w4.cell? ⟨w.heap.size + 1, 0, none⟩ = some (I id2) := cellr (unhide H4).rb rfl
    have b1 : w4.cell? ⟨w.heap.size + 1, 1, none⟩ = some (S cl2) := cellr (unhide H4).rb rfl
    have b2 : w4.cell? ⟨w.heap.size + 1, 2, none⟩ = some (S su2) := cellr (unhide H4).rb rfl
    have b3 : w4.cell? ⟨w.heap.size + 1, 3, none⟩ = some (.slice va2 sc2.length vc2) := cellr (unhide H4).rb rfl
    have b4 : w4.cell? ⟨w.heap.size + 1, 4, none⟩ = some (I cr2) := cellr (unhide H4).rb rfl
    have b5 : w4.cell? ⟨w.heap.size + 1, 5, none⟩ = some (I us2) := cellr (unhide H4).rb rfl
    have b6 : w4.cell? ⟨w.heap.size + 1, 6, none⟩ = some (I il2) := cellr (unhide H4).rb rfl
    have b7 : w4.cell? ⟨w.heap.size + 1, 7, none⟩ = some (I ab2) := cellr (unhide H4).rb rfl
    have b8 : w4.cell? ⟨w.heap.size + 1, 8, none⟩ = some (I gr2) := cellr (unhide H4).rb rfl
    have b9 : w4.cell? ⟨w.heap.size + 1, 9, none⟩ = some (I ge2) := cellr (unhide H4).rb rfl
    have b10 : w4.cell? ⟨w.heap.size + 1, 10, none⟩ = some (I to2) := cellr (unhide H4).rb rfl
    have b11 : w4.cell? ⟨w.heap.size + 1, 11, none⟩ = some (I st2) := cellr (unhide H4).rb rfl
    have b12 : w4.cell? ⟨w.heap.size + 1, 12, none⟩ = some (I en2) := cellr (unhide H4).rb rfl
    have b13 : w4.cell? ⟨w.heap.size + 1, 13, none⟩ = some (I co2) := cellr (unhide H4).rb rfl
    have X1 := hide (unhide XF2 w4 (unhide H4).bel)
    clear XF2
    go_wp2_with fail
    refine (unhide X1).mono ?_
    rintro e w5 ⟨⟨Q, rfl, hrow⟩, hb⟩
    have H5 := hide ((unhide H4).go hb)
    have R1' := hide ((hb.block _ (lt_of_row (unhide R1))).trans (unhide R1))
    have R2 := hide ((hb.block _ (lt_of_row (unhide R2'))).trans (unhide R2'))
    have RP' := hide ((hb.block _ (lt_of_row (unhide RP))).trans (unhide RP))
    have RQ := hide hrow
    clear hrow hb R1 R2' RP H4 X1 b0 b1 b2 b3 b4 b5 b6 b7 b8 b9 b10 b11 b12 b13
    have a0 : w5.cell? ⟨w.heap.size, 0, none⟩ = some (I id1) := cellr (unhide H5).ra rfl
    have b0 : w5.cell? ⟨w.heap.size + 1, 0, none⟩ = some (I id2) := cellr (unhide H5).rb rfl
    have x0 : w5.cell? ⟨w2.heap.size, 0, none⟩ = some (S fk1) := cellr (unhide R1') rfl
    have y0 : w5.cell? ⟨w3.heap.size, 0, none⟩ = some (S fk2) := cellr (unhide R2) rfl
    have hl := run_lss fk1 fk2
    go_upto_region 7 with fail
    go_cut [96] from 68 to 96 (fun v wc => v = .bool false ∧ wc = w5)
    case first =>
      go_wp2
      go_meet
      exact ⟨by rw [less_eq, show decide (fk1 < fk2) = decide (id1 < id2) from decide_eq_decide.2 (unhide D1)]; simp, rfl⟩
    case rest =>
    obtain ⟨rfl, hwc⟩ := hcut
    rw [hwc]
    clear hwc x0 y0 hl a0 b0 R1' R2 D1
    have a0 : w5.cell? ⟨w.heap.size, 0, none⟩ = some (I id1) := cellr (unhide H5).ra rfl
    have a1 : w5.cell? ⟨w.heap.size, 1, none⟩ = some (S cl1) := cellr (unhide H5).ra rfl
    have a2 : w5.cell? ⟨w.heap.size, 2, none⟩ = some (S su1) := cellr (unhide H5).ra rfl
    have a3 : w5.cell? ⟨w.heap.size, 3, none⟩ = some (.slice va1 sc1.length vc1) := cellr (unhide H5).ra rfl
    have a4 : w5.cell? ⟨w.heap.size, 4, none⟩ = some (I cr1) := cellr (unhide H5).ra rfl
    have a5 : w5.cell? ⟨w.heap.size, 5, none⟩ = some (I us1) := cellr (unhide H5).ra rfl
    have a6 : w5.cell? ⟨w.heap.size, 6, none⟩ = some (I il1) := cellr (unhide H5).ra rfl
    have a7 : w5.cell? ⟨w.heap.size, 7, none⟩ = some (I ab1) := cellr (unhide H5).ra rfl
    have a8 : w5.cell? ⟨w.heap.size, 8, none⟩ = some (I gr1) := cellr (unhide H5).ra rfl
    have a9 : w5.cell? ⟨w.heap.size, 9, none⟩ = some (I ge1) := cellr (unhide H5).ra rfl
    have a10 : w5.cell? ⟨w.heap.size, 10, none⟩ = some (I to1) := cellr (unhide H5).ra rfl
    have a11 : w5.cell? ⟨w.heap.size, 11, none⟩ = some (I st1) := cellr (unhide H5).ra rfl
    have a12 : w5.cell? ⟨w.heap.size, 12, none⟩ = some (I en1) := cellr (unhide H5).ra rfl
    have a13 : w5.cell? ⟨w.heap.size, 13, none⟩ = some (I co1) := cellr (unhide H5).ra rfl
    have X1 := hide (unhide XE1 w5)
    clear XE1
    go_wp2_with fail
    refine (unhide X1).mono ?_
    rintro e w6 ⟨rfl, hb⟩
    have H6 := hide ((unhide H5).go hb)
    have RP := hide ((hb.block _ (lt_of_row (unhide RP'))).trans (unhide RP'))
    have RQ' := hide ((hb.block _ (lt_of_row (unhide RQ))).trans (unhide RQ))
    clear hb RP' RQ H5 X1 a0 a1 a2 a3 a4 a5 a6 a7 a8 a9 a10 a11 a12 a13
    have b0 : w6.cell? ⟨w.heap.size + 1, 0, none⟩ = some (I id2) := cellr (unhide H6).rb rfl
    have b1 : w6.cell? ⟨w.heap.size + 1, 1, none⟩ = some (S cl2) := cellr (unhide H6).rb rfl
    have b2 : w6.cell? ⟨w.heap.size + 1, 2, none⟩ = some (S su2) := cellr (unhide H6).rb rfl
    have b3 : w6.cell? ⟨w.heap.size + 1, 3, none⟩ = some (.slice va2 sc2.length vc2) := cellr (unhide H6).rb rfl
    have b4 : w6.cell? ⟨w.heap.size + 1, 4, none⟩ = some (I cr2) := cellr (unhide H6).rb rfl
    have b5 : w6.cell? ⟨w.heap.size + 1, 5, none⟩ = some (I us2) := cellr (unhide H6).rb rfl
    have b6 : w6.cell? ⟨w.heap.size + 1, 6, none⟩ = some (I il2) := cellr (unhide H6).rb rfl
    have b7 : w6.cell? ⟨w.heap.size + 1, 7, none⟩ = some (I ab2) := cellr (unhide H6).rb rfl
    have b8 : w6.cell? ⟨w.heap.size + 1, 8, none⟩ = some (I gr2) := cellr (unhide H6).rb rfl
    have b9 : w6.cell? ⟨w.heap.size + 1, 9, none⟩ = some (I ge2) := cellr (unhide H6).rb rfl
    have b10 : w6.cell? ⟨w.heap.size + 1, 10, none⟩ = some (I to2) := cellr (unhide H6).rb rfl
    have b11 : w6.cell? ⟨w.heap.size + 1, 11, none⟩ = some (I st2) := cellr (unhide H6).rb rfl
    have b12 : w6.cell? ⟨w.heap.size + 1, 12, none⟩ = some (I en2) := cellr (unhide H6).rb rfl
    have b13 : w6.cell? ⟨w.heap.size + 1, 13, none⟩ = some (I co2) := cellr (unhide H6).rb rfl
    have X1 := hide (unhide XE2 w6)
    clear XE2
    go_wp2_with fail
    refine (unhide X1).mono ?_
    rintro e w7 ⟨rfl, hb⟩
    have H7 := hide ((unhide H6).go hb)
    have RP' := hide ((hb.block _ (lt_of_row (unhide RP))).trans (unhide RP))
    have RQ := hide ((hb.block _ (lt_of_row (unhide RQ'))).trans (unhide RQ'))
    clear hb RP RQ' H6 X1 b0 b1 b2 b3 b4 b5 b6 b7 b8 b9 b10 b11 b12 b13
    go_upto_region 11 with fail
    go_cut [125] from 101 to 125 (fun v wc => v = .bool false ∧ Below w7.heap.size w7 wc)
    case first =>
      have ca := fun (W : World) (hW : Below w7.heap.size w7 W) => (hW.block _ (lt_of_row (unhide H7).ra)).trans (unhide H7).ra
      have cb := fun (W : World) (hW : Below w7.heap.size w7 W) => (hW.block _ (lt_of_row (unhide H7).rb)).trans (unhide H7).rb
      have cp := fun (W : World) (hW : Below w7.heap.size w7 W) => (hW.block _ (lt_of_row (unhide RP'))).trans (unhide RP')
      have cq := fun (W : World) (hW : Below w7.heap.size w7 W) => (hW.block _ (lt_of_row (unhide RQ))).trans (unhide RQ)
      rcases Int.lt_trichotomy m n with hmn | hmn | hmn
      · have hk : ek1 < ek2 := (unhide D2).2 (.inl hmn)
        refine ror11a P Q m n ek1 ek2 rfl (by rfl) (by rfl) _ w7 (by simp) rfl rfl rfl rfl (fun _ _ W => Below w7.heap.size w7 W) ⟨(), (Below.refl _ _).drew⟩ (fun i _ c L W h => h)
          (fun W => by kernel_rfl) (fun c L W hW _ _ => s_ld (T := 9) (fun _ => by kernel_rfl) (cellr (cp W hW) rfl)) (fun W => by kernel_rfl) (fun c L W hW _ _ => s_ld (T := 9) (fun _ => by kernel_rfl) (cellr (cq W hW) rfl))
          (fun W => by rw [← show decide (ek1 < ek2) = true from decide_eq_true hk]; exact run_lss _ _ W) (fun W => by simp [go_sem, eqGuard, hmn]) (fun W => by kernel_rfl) ?_
        intro c L W hall hW
        simp only [Act.put, List.setIfInBounds_toArray, List.set_cons_succ, List.set_cons_zero]
        go_wp2_with fail
        go_meet
        exact ⟨rfl, hW⟩
      · have hk : ek1 < ek2 ↔ id1 < id2 := by rw [unhide D2]; omega
        refine ror11b w.heap.size (w.heap.size + 1) P Q m n id1 id2 ek1 ek2 (decide (id1 < id2)) rfl (by rfl) (by rfl) _ w7 (by simp) rfl rfl rfl rfl rfl rfl (fun _ _ W => Below w7.heap.size w7 W) ⟨(), (Below.refl _ _).drew⟩ (fun i _ c L W h => h)
          (fun W => by kernel_rfl) (fun c L W hW _ _ => s_ld (T := 9) (fun _ => by kernel_rfl) (cellr (cp W hW) rfl)) (fun W => by kernel_rfl) (fun c L W hW _ _ => s_ld (T := 9) (fun _ => by kernel_rfl) (cellr (cq W hW) rfl))
          (fun W => by rw [← decide_eq_decide.2 hk]; exact run_lss _ _ W) (fun W => by simp [go_sem, eqGuard]; omega) (fun W => by simp [go_sem, eqGuard, hmn])
          (fun c L W hW _ _ => s_ld (T := 3) (fun _ => by kernel_rfl) (cellr (ca W hW) rfl)) (fun c L W hW _ _ => s_ld (T := 3) (fun _ => by kernel_rfl) (cellr (cb W hW) rfl)) (fun W => by simp [go_sem, eqGuard]) (fun W => by generalize decide (id1 < id2) = b; cases b <;> kernel_rfl) ?_
        intro c L W hall hW
        simp only [Act.put, List.setIfInBounds_toArray, List.set_cons_succ, List.set_cons_zero]
        go_wp2_with fail
        go_meet
        exact ⟨rfl, hW⟩
      · have hk : ¬ ek1 < ek2 := fun q => by have := (unhide D2).1 q; omega
        refine ror11c P Q m n ek1 ek2 rfl (by rfl) (by rfl) _ w7 (by simp) rfl rfl rfl rfl (fun _ _ W => Below w7.heap.size w7 W) ⟨(), (Below.refl _ _).drew⟩ (fun i _ c L W h => h)
          (fun W => by kernel_rfl) (fun c L W hW _ _ => s_ld (T := 9) (fun _ => by kernel_rfl) (cellr (cp W hW) rfl)) (fun W => by kernel_rfl) (fun c L W hW _ _ => s_ld (T := 9) (fun _ => by kernel_rfl) (cellr (cq W hW) rfl))
          (fun W => by rw [← show decide (ek1 < ek2) = false from decide_eq_false hk]; exact run_lss _ _ W) (fun W => by simp [go_sem, eqGuard]; omega) (fun W => by simp [go_sem, eqGuard]; omega) (fun W => by kernel_rfl) ?_
        intro c L W hall hW
        simp only [Act.put, List.setIfInBounds_toArray, List.set_cons_succ, List.set_cons_zero]
        go_wp2_with fail
        go_meet
        exact ⟨rfl, hW⟩
    case rest =>
    obtain ⟨rfl, hb⟩ := hcut
    generalize wc = w8 at *
    have H8 := hide ((unhide H7).go hb)
    have RP := hide ((hb.block _ (lt_of_row (unhide RP'))).trans (unhide RP'))
    have RQ' := hide ((hb.block _ (lt_of_row (unhide RQ))).trans (unhide RQ))
    clear hb RP' RQ H7 D2
    go_upto_region 13 with fail
    go_cut [147] from 126 to 147 (fun v wc => v = .bool false ∧ Below w8.heap.size w8 wc)
    case first =>
      have ca := fun (W : World) (hW : Below w8.heap.size w8 W) => (hW.block _ (lt_of_row (unhide H8).ra)).trans (unhide H8).ra
      have cb := fun (W : World) (hW : Below w8.heap.size w8 W) => (hW.block _ (lt_of_row (unhide H8).rb)).trans (unhide H8).rb
      have cp := fun (W : World) (hW : Below w8.heap.size w8 W) => (hW.block _ (lt_of_row (unhide RP))).trans (unhide RP)
      have cq := fun (W : World) (hW : Below w8.heap.size w8 W) => (hW.block _ (lt_of_row (unhide RQ'))).trans (unhide RQ')
      by_cases hs : su1 = su2
      · have hk := unhide D3 hs
        refine ror13a w.heap.size (w.heap.size + 1) P Q id1 id2 su1 sk1 sk2 (decide (id1 < id2)) rfl (by rfl) (by rfl) _ w8 (by simp) rfl rfl rfl rfl (fun _ _ W => Below w8.heap.size w8 W) ⟨(), (Below.refl _ _).drew⟩ (fun i _ c L W h => h)
          (fun c L W hW _ _ => s_ld (T := 9) (fun _ => by kernel_rfl) (cellr (ca W hW) rfl)) (fun c L W hW _ _ => s_ld (T := 9) (fun _ => by kernel_rfl) (by rw [hs]; exact cellr (cb W hW) rfl)) (fun W => by simp [go_sem, eqGuard])
          (fun W => by kernel_rfl) (fun c L W hW _ _ => s_ld (T := 9) (fun _ => by kernel_rfl) (cellr (cp W hW) rfl)) (fun W => by kernel_rfl) (fun c L W hW _ _ => s_ld (T := 9) (fun _ => by kernel_rfl) (cellr (cq W hW) rfl))
          (fun W => by rw [← decide_eq_decide.2 hk]; exact run_lss _ _ W) (fun c L W hW _ _ => s_ld (T := 3) (fun _ => by kernel_rfl) (cellr (ca W hW) rfl)) (fun c L W hW _ _ => s_ld (T := 3) (fun _ => by kernel_rfl) (cellr (cb W hW) rfl)) (fun W => by simp [go_sem, eqGuard]) (fun W => by generalize decide (id1 < id2) = b; cases b <;> kernel_rfl) ?_
        intro c L W hall hW
        simp only [Act.put, List.setIfInBounds_toArray, List.set_cons_succ, List.set_cons_zero]
        go_wp2_with fail
        go_meet
        exact ⟨rfl, hW⟩
      · refine ror13b w.heap.size (w.heap.size + 1) su1 su2 rfl (by rfl) (by rfl) _ w8 (by simp) rfl rfl (fun _ _ W => Below w8.heap.size w8 W) ⟨(), (Below.refl _ _).drew⟩ (fun i _ c L W h => h)
          (fun c L W hW _ _ => s_ld (T := 9) (fun _ => by kernel_rfl) (cellr (ca W hW) rfl)) (fun c L W hW _ _ => s_ld (T := 9) (fun _ => by kernel_rfl) (cellr (cb W hW) rfl)) (fun W => by simp [go_sem, eqGuard, hs]) ?_
        intro c L W hall hW
        simp only [Act.put, List.setIfInBounds_toArray, List.set_cons_succ, List.set_cons_zero]
        go_wp2_with fail
        go_meet
        exact ⟨rfl, hW⟩
    case rest =>
    obtain ⟨rfl, hb⟩ := hcut
    generalize wc = w9 at *
    have H9 := hide ((unhide H8).go hb)
    have RP' := hide ((hb.block _ (lt_of_row (unhide RP))).trans (unhide RP))
    clear hb RP RQ' H8 D3
    have p0 : w9.cell? ⟨P, 0, none⟩ = some (S ek1) := cellr (unhide RP') rfl
    have p1 : w9.cell? ⟨P, 1, none⟩ = some (S ev1) := cellr (unhide RP') rfl
    have X1 := hide (ParseIndex_any ek1 ev1 w9 (by have := unhide L1; omega) (by have := unhide L1; omega))
    rw [unhide I1] at X1
    simp only at X1
    go_wp2_with fail
    refine (unhide X1).mono ?_
    rintro e w10 ⟨rfl, hb⟩
    have HX := hide ((unhide H9).go hb)
    have RP := hide ((hb.block _ (lt_of_row (unhide RP'))).trans (unhide RP'))
    clear hb RP' H9 X1 p0 p1
    have p2 : w10.cell? ⟨P, 2, none⟩ = some (S sk1) := cellr (unhide RP) rfl
    have p3 : w10.cell? ⟨P, 3, none⟩ = some (S sv1) := cellr (unhide RP) rfl
    have X1 := hide (ParseIndex_any sk1 sv1 w10 (by have := unhide L1; omega) (by have := unhide L1; omega))
    rw [unhide I2] at X1
    simp only at X1
    go_wp2_with fail
    refine (unhide X1).mono ?_
    rintro e w11 ⟨rfl, hb⟩
    have HY := hide ((unhide HX).go hb)
    clear hb RP HX X1 p2 p3 I1 I2 L1
    have a0 : w11.cell? ⟨w.heap.size, 0, none⟩ = some (I id1) := cellr (unhide HY).ra rfl
    have a2 : w11.cell? ⟨w.heap.size, 2, none⟩ = some (S su1) := cellr (unhide HY).ra rfl
    go_wp2
    go_meet
    exact unhide HY
  case rest =>
  have H4 := hide hcut
  clear hcut R1' R2 H3 HS1 HS2 K1 K2 HBB
  generalize wc = w4 at *
  have t0 : w4.cell? ⟨w.heap.size + 1 + 1, 0, none⟩ = some (I id3) := cellr (unhide H4).rt rfl
  have t1 : w4.cell? ⟨w.heap.size + 1 + 1, 1, none⟩ = some (I fa3) := cellr (unhide H4).rt rfl
  have t2 : w4.cell? ⟨w.heap.size + 1 + 1, 2, none⟩ = some (I ge3) := cellr (unhide H4).rt rfl
  have t3 : w4.cell? ⟨w.heap.size + 1 + 1, 3, none⟩ = some (S ha3) := cellr (unhide H4).rt rfl
  have t4 : w4.cell? ⟨w.heap.size + 1 + 1, 4, none⟩ = some (I mi3) := cellr (unhide H4).rt rfl
  have t5 : w4.cell? ⟨w.heap.size + 1 + 1, 5, none⟩ = some (.bool sp3) := cellr (unhide H4).rt rfl
  have t6 : w4.cell? ⟨w.heap.size + 1 + 1, 6, none⟩ = some (I at3) := cellr (unhide H4).rt rfl
  have t7 : w4.cell? ⟨w.heap.size + 1 + 1, 7, none⟩ = some (I ne3) := cellr (unhide H4).rt rfl
  have t8 : w4.cell? ⟨w.heap.size + 1 + 1, 8, none⟩ = some (S se3) := cellr (unhide H4).rt rfl
  have X1 := hide (Print33 id3 fa3 ge3 ha3 mi3 sp3 at3 ne3 se3 w4)
  generalize hp3 : tokP id3 fa3 ge3 ha3 mi3 sp3 at3 ne3 se3 = p3 at *
  have HP3 := hide hp3
  clear hp3
  go_wp2_with fail
  refine (unhide X1).mono ?_
  rintro e w5 ⟨rfl, hb⟩
  have H5 := hide (((unhide H4).go hb).go (al30 w5 p3.1.1 p3.1.2))
  have r1 := heap_alloc_new w5 (.cells #[S p3.1.1, S p3.1.2] 30)
  generalize hW5 : w5.alloc (.cells #[S p3.1.1, S p3.1.2] 30) = W5 at *
  have R1 := hide r1
  clear r1 hb X1 H4 t0 t1 t2 t3 t4 t5 t6 t7 t8
  have u0 : W5.cell? ⟨w.heap.size + 1 + 1 + 1, 0, none⟩ = some (I id4) := cellr (unhide H5).ru rfl
  have u1 : W5.cell? ⟨w.heap.size + 1 + 1 + 1, 1, none⟩ = some (I fa4) := cellr (unhide H5).ru rfl
  have u2 : W5.cell? ⟨w.heap.size + 1 + 1 + 1, 2, none⟩ = some (I ge4) := cellr (unhide H5).ru rfl
  have u3 : W5.cell? ⟨w.heap.size + 1 + 1 + 1, 3, none⟩ = some (S ha4) := cellr (unhide H5).ru rfl
  have u4 : W5.cell? ⟨w.heap.size + 1 + 1 + 1, 4, none⟩ = some (I mi4) := cellr (unhide H5).ru rfl
  have u5 : W5.cell? ⟨w.heap.size + 1 + 1 + 1, 5, none⟩ = some (.bool sp4) := cellr (unhide H5).ru rfl
  have u6 : W5.cell? ⟨w.heap.size + 1 + 1 + 1, 6, none⟩ = some (I at4) := cellr (unhide H5).ru rfl
  have u7 : W5.cell? ⟨w.heap.size + 1 + 1 + 1, 7, none⟩ = some (I ne4) := cellr (unhide H5).ru rfl
  have u8 : W5.cell? ⟨w.heap.size + 1 + 1 + 1, 8, none⟩ = some (S se4) := cellr (unhide H5).ru rfl
  have X1 := hide (Print33 id4 fa4 ge4 ha4 mi4 sp4 at4 ne4 se4 W5)
  generalize hp4 : tokP id4 fa4 ge4 ha4 mi4 sp4 at4 ne4 se4 = p4 at *
  have HP4 := hide hp4
  clear hp4
  go_wp2_with fail
  refine (unhide X1).mono ?_
  rintro e w6 ⟨rfl, hb⟩
  have hb' := hb.trans ((al30 w6 p4.1.1 p4.1.2).mono hb.size)
  have H6 := hide ((unhide H5).go hb')
  have R2 := hide (heap_alloc_new w6 (.cells #[S p4.1.1, S p4.1.2] 30))
  have R1' := hide ((hb'.block _ (lt_of_row (unhide R1))).trans (unhide R1))
  clear hb hb' X1 H5 u0 u1 u2 u3 u4 u5 u6 u7 u8 hW5 R1
  generalize hW6 : w6.alloc (.cells #[S p4.1.1, S p4.1.2] 30) = W6 at *
  have K1 : (tokOK id3 fa3 ge3 ha3 mi3 sp3 at3 ne3 se3 = true ∧ p3 = ((cat (lx (tokKl id3 fa3 ge3 ha3 mi3 sp3 at3 ne3 se3)) 2, cat (lx (tokVl id3 fa3 ge3 ha3 mi3 sp3 at3 ne3 se3)) 8), 0)) ∨ (tokOK id3 fa3 ge3 ha3 mi3 sp3 at3 ne3 se3 = false ∧ p3 = (([], []), 140)) := by
    rw [← unhide HP3]; unfold tokP; split
    · exact .inl ⟨by assumption, rfl⟩
    · exact .inr ⟨by simpa using (by assumption : ¬ tokOK id3 fa3 ge3 ha3 mi3 sp3 at3 ne3 se3 = true), rfl⟩
  have K2 : (tokOK id4 fa4 ge4 ha4 mi4 sp4 at4 ne4 se4 = true ∧ p4 = ((cat (lx (tokKl id4 fa4 ge4 ha4 mi4 sp4 at4 ne4 se4)) 2, cat (lx (tokVl id4 fa4 ge4 ha4 mi4 sp4 at4 ne4 se4)) 8), 0)) ∨ (tokOK id4 fa4 ge4 ha4 mi4 sp4 at4 ne4 se4 = false ∧ p4 = (([], []), 140)) := by
    rw [← unhide HP4]; unfold tokP; split
    · exact .inl ⟨by assumption, rfl⟩
    · exact .inr ⟨by simpa using (by assumption : ¬ tokOK id4 fa4 ge4 ha4 mi4 sp4 at4 ne4 se4 = true), rfl⟩
  have K1 := hide K1
  have K2 := hide K2
  clear HP3 HP4
  go_upto_region 21 with fail
  clear hW6
  rcases unhide K1 with ⟨o1, e1⟩ | ⟨o1, e1⟩
  rotate_left
  · subst e1
    clear K1 K2 R1' R2 o1
    go_wp2
    go_ret
    exact ⟨rfl, (unhide H6).bel⟩
  rcases unhide K2 with ⟨o2, e2⟩ | ⟨o2, e2⟩
  rotate_left
  · subst e1 e2
    clear K1 K2 R1' R2 o1 o2
    go_wp2
    go_ret
    exact ⟨rfl, (unhide H6).bel⟩
  subst e1 e2
  have N1 := hide (tok_mem o1)
  have N2 := hide (tok_mem o2)
  have D1 : Hid ((cat (lx (tokKl id3 fa3 ge3 ha3 mi3 sp3 at3 ne3 se3)) 2 < cat (lx (tokKl id4 fa4 ge4 ha4 mi4 sp4 at4 ne4 se4)) 2) ↔ id3 < id4) := hide (lt_one 116 id3 id4 (by have := memB (unhide N1); omega) (by have := memB (unhide N2); omega))
  have D2 := hide (lt_mem _ _ _ _ _ _ (unhide N1) (unhide N2))
  have I1 := hide (idx_mem (unhide N1))
  have XT1 := hide (fun W => OfToken_any id3 fa3 ge3 ha3 mi3 sp3 at3 ne3 se3 W)
  have XT2 := hide (fun W => OfToken_any id4 fa4 ge4 ha4 mi4 sp4 at4 ne4 se4 W)
  have L1 : Hid ((cat (lx (memKl fa3 ge3 id3)) 3).length ≤ 1000 ∧ (cat (lx (memVl fa3 ge3 id3)) 1).length ≤ 1000) := hide (by
    simp [cat, lx, memKl, memVl, be_len])
  have E1 : ofT id3 fa3 ge3 ha3 mi3 sp3 at3 ne3 se3 = ((cat (lx (memKl fa3 ge3 id3)) 3, cat (lx (memVl fa3 ge3 id3)) 1), 0) := by simp [ofT, o1]
  have E2 : ofT id4 fa4 ge4 ha4 mi4 sp4 at4 ne4 se4 = ((cat (lx (memKl fa4 ge4 id4)) 3, cat (lx (memVl fa4 ge4 id4)) 1), 0) := by simp [ofT, o2]
  simp only [E1, E2] at XT1 XT2
  clear K1 K2 N1 N2 E1 E2 o1 o2
  simp only at R1' R2
  generalize cat (lx (memKl fa3 ge3 id3)) 3 = mk1 at *
  generalize cat (lx (memKl fa4 ge4 id4)) 3 = mk2 at *
  generalize cat (lx (memVl fa3 ge3 id3)) 1 = mv1 at *
  generalize cat (lx (memVl fa4 ge4 id4)) 1 = mv2 at *
  generalize cat (lx (tokKl id3 fa3 ge3 ha3 mi3 sp3 at3 ne3 se3)) 2 = tk1 at *
  generalize cat (lx (tokKl id4 fa4 ge4 ha4 mi4 sp4 at4 ne4 se4)) 2 = tk2 at *
  generalize cat (lx (tokVl id3 fa3 ge3 ha3 mi3 sp3 at3 ne3 se3)) 8 = tv1 at *
  generalize cat (lx (tokVl id4 fa4 ge4 ha4 mi4 sp4 at4 ne4 se4)) 8 = tv2 at *
  have t0 : W6.cell? ⟨w.heap.size + 1 + 1, 0, none⟩ = some (I id3) := cellr (unhide H6).rt rfl
  have t1 : W6.cell? ⟨w.heap.size + 1 + 1, 1, none⟩ = some (I fa3) := cellr (unhide H6).rt rfl
  have t2 : W6.cell? ⟨w.heap.size + 1 + 1, 2, none⟩ = some (I ge3) := cellr (unhide H6).rt rfl
  have t3 : W6.cell? ⟨w.heap.size + 1 + 1, 3, none⟩ = some (S ha3) := cellr (unhide H6).rt rfl
  have t4 : W6.cell? ⟨w.heap.size + 1 + 1, 4, none⟩ = some (I mi3) := cellr (unhide H6).rt rfl
  have t5 : W6.cell? ⟨w.heap.size + 1 + 1, 5, none⟩ = some (.bool sp3) := cellr (unhide H6).rt rfl
  have t6 : W6.cell? ⟨w.heap.size + 1 + 1, 6, none⟩ = some (I at3) := cellr (unhide H6).rt rfl
  have t7 : W6.cell? ⟨w.heap.size + 1 + 1, 7, none⟩ = some (I ne3) := cellr (unhide H6).rt rfl
  have t8 : W6.cell? ⟨w.heap.size + 1 + 1, 8, none⟩ = some (S se3) := cellr (unhide H6).rt rfl
  have X1 := hide (unhide XT1 W6)
  clear XT1
  go_wp2_with fail
  refine (unhide X1).mono ?_
  rintro e w7 ⟨rfl, hb⟩
  have hb' := hb.trans ((al30 w7 mk1 mv1).mono hb.size)
  have H7 := hide ((unhide H6).go hb')
  have R3 := hide (heap_alloc_new w7 (.cells #[S mk1, S mv1] 30))
  have R1 := hide ((hb'.block _ (lt_of_row (unhide R1'))).trans (unhide R1'))
  have R2' := hide ((hb'.block _ (lt_of_row (unhide R2))).trans (unhide R2))
  clear hb hb' X1 H6 t0 t1 t2 t3 t4 t5 t6 t7 t8 R1' R2
  generalize hW7 : w7.alloc (.cells #[S mk1, S mv1] 30) = W7 at *
  have u0 : W7.cell? ⟨w.heap.size + 1 + 1 + 1, 0, none⟩ = some (I id4) := cellr (unhide H7).ru rfl
  have u1 : W7.cell? ⟨w.heap.size + 1 + 1 + 1, 1, none⟩ = some (I fa4) := cellr (unhide H7).ru rfl
  have u2 : W7.cell? ⟨w.heap.size + 1 + 1 + 1, 2, none⟩ = some (I ge4) := cellr (unhide H7).ru rfl
  have u3 : W7.cell? ⟨w.heap.size + 1 + 1 + 1, 3, none⟩ = some (S ha4) := cellr (unhide H7).ru rfl
  have u4 : W7.cell? ⟨w.heap.size + 1 + 1 + 1, 4, none⟩ = some (I mi4) := cellr (unhide H7).ru rfl
  have u5 : W7.cell? ⟨w.heap.size + 1 + 1 + 1, 5, none⟩ = some (.bool sp4) := cellr (unhide H7).ru rfl
  have u6 : W7.cell? ⟨w.heap.size + 1 + 1 + 1, 6, none⟩ = some (I at4) := cellr (unhide H7).ru rfl
  have u7 : W7.cell? ⟨w.heap.size + 1 + 1 + 1, 7, none⟩ = some (I ne4) := cellr (unhide H7).ru rfl
  have u8 : W7.cell? ⟨w.heap.size + 1 + 1 + 1, 8, none⟩ = some (S se4) := cellr (unhide H7).ru rfl
  have X1 := hide (unhide XT2 W7)
  clear XT2
  go_wp2_with fail
  refine (unhide X1).mono ?_
  rintro e w8 ⟨rfl, hb⟩
  have hb' := hb.trans ((al30 w8 mk2 mv2).mono hb.size)
  have H8 := hide ((unhide H7).go hb')
  have R4 := hide (heap_alloc_new w8 (.cells #[S mk2, S mv2] 30))
  have R3' := hide ((hb'.block _ (lt_of_row (unhide R3))).trans (unhide R3))
  have R1' := hide ((hb'.block _ (lt_of_row (unhide R1))).trans (unhide R1))
  have R2 := hide ((hb'.block _ (lt_of_row (unhide R2'))).trans (unhide R2'))
  clear hb hb' X1 H7 u0 u1 u2 u3 u4 u5 u6 u7 u8 hW7 R1 R2' R3
  generalize hW8 : w8.alloc (.cells #[S mk2, S mv2] 30) = W8 at *
  go_upto_region 24 with fail
  clear hW8
  go_cut [268] from 223 to 268 (fun v wc => v = .bool false ∧ wc = W8)
  case first =>
    have t0 : W8.cell? ⟨w.heap.size + 1 + 1, 0, none⟩ = some (I id3) := cellr (unhide H8).rt rfl
    have t1 : W8.cell? ⟨w.heap.size + 1 + 1, 1, none⟩ = some (I fa3) := cellr (unhide H8).rt rfl
    have t2 : W8.cell? ⟨w.heap.size + 1 + 1, 2, none⟩ = some (I ge3) := cellr (unhide H8).rt rfl
    have u0 : W8.cell? ⟨w.heap.size + 1 + 1 + 1, 0, none⟩ = some (I id4) := cellr (unhide H8).ru rfl
    have u1 : W8.cell? ⟨w.heap.size + 1 + 1 + 1, 1, none⟩ = some (I fa4) := cellr (unhide H8).ru rfl
    have u2 : W8.cell? ⟨w.heap.size + 1 + 1 + 1, 2, none⟩ = some (I ge4) := cellr (unhide H8).ru rfl
    have x0 : W8.cell? ⟨w5.heap.size, 0, none⟩ = some (S tk1) := cellr (unhide R1') rfl
    have y0 : W8.cell? ⟨w6.heap.size, 0, none⟩ = some (S tk2) := cellr (unhide R2) rfl
    have x1 : W8.cell? ⟨w7.heap.size, 0, none⟩ = some (S mk1) := cellr (unhide R3') rfl
    have y1 : W8.cell? ⟨w8.heap.size, 0, none⟩ = some (S mk2) := cellr (unhide R4) rfl
    have Z1 : Op.bytesLess tk1 tk2 = decide (id3 < id4) := by rw [less_eq]; exact decide_eq_decide.2 (unhide D1)
    have HD2 := D2
    rcases Int.lt_trichotomy fa3 fa4 with hmn | hmn | hmn
    · have Z2 : Op.bytesLess mk1 mk2 = true := by rw [less_eq]; exact decide_eq_true ((unhide D2).2 (.inl hmn))
      have g1 : decide (fa3 < fa4) = true := decide_eq_true hmn
      clear D1 D2 HD2
      go_wp2
      go_meet
      exact ⟨by simp, rfl⟩
    · have Z2 : Op.bytesLess mk1 mk2 = decide (ge3 < ge4) := by rw [less_eq]; exact decide_eq_decide.2 (by rw [unhide D2]; omega)
      have g1 : decide (fa3 < fa4) = false := decide_eq_false (by omega)
      have g2 : (fa3 == fa4) = true := by simp [hmn]
      clear D1 D2 HD2
      go_wp2
      go_meet
      exact ⟨by simp, rfl⟩
    · have Z2 : Op.bytesLess mk1 mk2 = false := by rw [less_eq]; exact decide_eq_false (fun q => by have := (unhide D2).1 q; omega)
      have g1 : decide (fa3 < fa4) = false := decide_eq_false (by omega)
      have g2 : (fa3 == fa4) = false := by simp; omega
      clear D1 D2 HD2
      go_wp2
      go_meet
      exact ⟨by simp, rfl⟩
  case rest =>
  obtain ⟨rfl, hwc⟩ := hcut
  rw [hwc]
  clear hwc
  have x0 : W8.cell? ⟨w7.heap.size, 0, none⟩ = some (S mk1) := cellr (unhide R3') rfl
  have x1 : W8.cell? ⟨w7.heap.size, 1, none⟩ = some (S mv1) := cellr (unhide R3') rfl
  have X1 := hide (ParseIndex_any mk1 mv1 W8 (by have := unhide L1; omega) (by have := unhide L1; omega))
  rw [unhide I1] at X1
  simp only at X1
  go_wp2_with fail
  refine (unhide X1).mono ?_
  rintro e w9 ⟨rfl, hb⟩
  have H9 := hide ((unhide H8).go hb)
  clear hb X1 H8 x0 x1 R1' R2 R3' R4 I1 L1 D1 D2
  have t1 : w9.cell? ⟨w.heap.size + 1 + 1, 1, none⟩ = some (I fa3) := cellr (unhide H9).rt rfl
  have t2 : w9.cell? ⟨w.heap.size + 1 + 1, 2, none⟩ = some (I ge3) := cellr (unhide H9).rt rfl
  go_wp2
  go_ret
  exact ⟨rfl, (unhide H9).bel⟩
end Go.Proofs.YtpidmpefodnffaaGreatDoor
