import Derived.Test.YtpelmacblglhoaaZzbv
import Derived.Test.YtpelmacblglhoaaRgpl
import Derived.BigQuiet
namespace Go.Proofs.Ytpelmacblglhoaa
open Go.RowKit
set_option maxHeartbeats 16000000
set_option maxRecDepth 16000
theorem play_o {w0 w : World} {K Z : Nat} {s : Ws} (h : WI w0 K Z none s w) (kind on n : Int) (str : Bs) (ks : List Kp) (a : Option Addr) (ck : Nat) (hk : Kls w0 a ks.length ks) (hr : Opr ⟨kind, on, n, str, ks⟩) (hK : K + 1 ≤ 5000000) (hhn : s.hn ≤ 1000000) (hnk : kind ≠ 3 ∧ kind ≠ 9) :
    Calls Try.prog 7 #[ptr Z, .agg #[I kind, I on, I n, S str, .slice a ks.length ck]] w fun e w' => e = .returned (.bool true) ∧ ∃ s', WI w0 (K + 1) Z none s' w' ∧ s'.hn ≤ 1000000 := by
  have HNK := hide hnk
  clear hnk
  have hz := heap_alloc_new w (.cells #[I kind, I on, I n, S str, .slice a ks.length ck] 35)
  have ba := (Below.refl w.heap.size w).alloc (Nat.le_refl _) (.cells #[I kind, I on, I n, S str, .slice a ks.length ck] 35)
  have h0 := (h.ext (7, 5)).below ba
  have H0 := hide h0
  have HM := hide (makes_wi (h0.mono (Nat.le_succ K)) ⟨kind, on, n, str, ks⟩ (.slice a ks.length ck) hr (by have := h.ns; simp only; omega) (by omega) hhn)
  have y : ∀ i, (w.alloc (.cells #[I kind, I on, I n, S str, .slice a ks.length ck] 35)).cell? ⟨w.heap.size, i, none⟩ = (#[I kind, I on, I n, S str, .slice a ks.length ck] : Array Value)[i]? := fun i => cell_of_row _ _ i _ 35 (0, 0) hz
  have y0 := y 0
  have y1 := y 1
  have y2 := y 2
  have y3 := y 3
  have y4 := y 4
  simp only [List.getElem?_toArray, List.getElem?_cons_zero, List.getElem?_cons_succ] at y0 y1 y2 y3 y4
  have HZ := hide hz
  have HR := hide hr
  have HK := hide hk
  have hwl := lt_of_row hz
  have hns := h.ns
  have hn1 := h.n1
  have hn2 := h.n2
  have HT := hide (show Go.Proofs.Ytpelmacblglhoaa.ext s.tag w.heap.size (7, 5) w.heap.size = (7, 5) from ext_new (Nat.le_refl _))
  have HTn := hide (show ∀ k, w.heap.size ≤ k → Go.Proofs.Ytpelmacblglhoaa.ext s.tag w.heap.size (7, 5) k = (7, 5) from fun k q => ext_new q)
  clear h hz ba h0 y hk hr
  go_enter Try.func7, Try.ntmps7
  go_wp2_with fail
  generalize w.alloc (.cells #[I kind, I on, I n, S str, .slice a ks.length ck] 35) = wb at *
  refine (unhide HM).mono ?_
  rintro e w1 ⟨rfl, s1, hw1, hl1, hsm1, hh1, hnd⟩
  by_cases hd : kind = 12 ∨ kind = 11
  · have hdd : (decide (kind = 12) || decide (kind = 11)) = true := by simpa using hd
    have HF := hide (And.intro hw1 hh1)
    rw [hdd]
    clear hw1 hnd hsm1 hl1 hh1 hd hdd
    go_wp2
    go_ret
    exact ⟨rfl, s1, (unhide HF).1, (unhide HF).2⟩
  · have hdd : (decide (kind = 12) || decide (kind = 11)) = false := by simpa using hd
    rw [hdd]
    obtain ⟨rfl, b1⟩ := hnd hd
    have HD := hide hd
    obtain ⟨pl, cl, hpl⟩ := owns_form hw1.rl
    simp only at hpl
    have z0 : w1.cell? ⟨Z, 0, none⟩ = some (.slice pl s.sd.length cl) := by rw [hw1.cell 0]; show some s.vl = _; rw [hpl]
    have hZ1 := hw1.lt
    by_cases hs0 : s.sd.length = 0
    · have hs0' : ((s.sd.length : Nat) : Int) = 0 := by omega
      have HF := hide hw1
      clear hw1 hsm1 hl1 hnd hd hdd b1 hs0 hpl
      go_wp2
      go_ret
      exact ⟨by first | rfl | simp, _, unhide HF, hhn⟩
    · have hs0' : ¬ ((s.sd.length : Nat) : Int) = 0 := by omega
      have hs1' : (((s.sd.length : Nat) : Int) == 0) = false := by simpa using hs0'
      obtain ⟨hon1, hon2⟩ := (unhide HR).a
      simp only at hon1 hon2
      have HPk := hide (fun W => pick_any on s.sd.length W (by omega) (by omega) hon1 hon2)
      have hj := pkv_lt on s.sd.length (by omega)
      generalize pkv on s.sd.length = j at *
      obtain ⟨x, hx⟩ : ∃ x, s.sd[j]? = some x := ⟨_, List.getElem?_eq_getElem hj⟩
      obtain ⟨g, cg, cur, eg, -⟩ := owns_at hw1.rl (show 0 < s.sd.length by omega)
      simp only at eg
      rw [hpl] at eg
      cases eg
      have hrl := hw1.rl
      simp only at hrl
      rw [hpl] at hrl
      have hcs := cellsS_at _ j x hx
      have q0 := owns_cell hrl _ _ hcs.1
      have q1 := owns_cell hrl _ _ hcs.2
      have hgl := blk_lt q0
      have z1 : w1.cell? ⟨w.heap.size, 1, none⟩ = some (I on) := (b1.cell (p := ⟨w.heap.size, 1, none⟩) hwl).trans y1
      have hwl1 := Nat.lt_of_lt_of_le hwl b1.size
      have hT1 : w1.heap[w.heap.size]? = some (.cells #[I kind, I on, I n, S str, .slice a ks.length ck] 35 (0, 0)) := (b1.block _ hwl).trans (unhide HZ)
      have HB1 := hide b1
      have HSO := hide (((unhide H0).below b1).so j x hx (by simp))
      have HW1 := hide hw1
      have HT1 := hide hT1
      have HX := hide hx
      have hFw : w.heap.size < w1.heap.size := hwl1
      clear hw1 hsm1 hl1 hnd hd b1 hpl hrl hcs hT1 hx hdd y0 y1 y2 y3 y4 HM H0 HZ
      go_wp2_with fail
      refine rpl Z g s.sd.length cl w.heap.size j x.D x.X w1.heap.size on rfl rfl rfl _ _ (show 47 ≤ 203 from by decide) rfl rfl (fun L W => W.os = w1.os ∧ W.tape = w1.tape ∧ W.output = w1.output ∧ (∀ k, k < w1.heap.size → W.heap[k]? = w1.heap[k]?) ∧ (L 14 = false → W.heap.size = w1.heap.size ∧ L 15 = false) ∧ (L 14 = true → W.heap.size = w1.heap.size + 1 ∧ W.heap[w1.heap.size]? = some (.cells (if L 15 then #[ptr x.D, ptr x.X] else #[.pointer none, .pointer none]) 40 (0, 0)))) ?h0 ?hp hj ?l3 ?l5 ?l9 ?l13 ?c11 ?n14 ?n15 ?_
      case h0 => exact ⟨rfl, rfl, rfl, fun _ _ => rfl, fun _ => ⟨rfl, rfl⟩, fun h => by cases h⟩
      case hp =>
        intro i hi L W q
        have h14 : i ≠ 14 := by rintro rfl; simp at hi
        have h15 : i ≠ 15 := by rintro rfl; simp at hi
        simpa only [upd, Ne.symm h14, Ne.symm h15, if_false] using q
      case l3 => exact fun L W q => (World.cell?_of_block (q.2.2.2.1 Z hZ1)).trans z0
      case l5 => exact fun L W q => (World.cell?_of_block (q.2.2.2.1 _ hwl1)).trans z1
      case l9 => exact fun L W q => (World.cell?_of_block (q.2.2.2.1 Z hZ1)).trans z0
      case l13 =>
        intro L W q
        rw [Nat.zero_add]
        exact ⟨(World.cell?_of_block (q.2.2.2.1 g hgl)).trans q0, (World.cell?_of_block (q.2.2.2.1 g hgl)).trans q1⟩
      case c11 =>
        intro L W q h5
        refine (unhide HPk W).mono ?_
        rintro e w2 ⟨rfl, rfl⟩
        exact ⟨rfl, by simpa [upd] using q⟩
      case n14 =>
        intro L W q h14
        obtain ⟨e1, e2, e3, e4, e5, e6⟩ := q
        have hsz := (e5 h14).1
        refine ⟨⟨e1, e2, e3, fun k hk => (heap_alloc_old _ _ (by omega)).trans (e4 k hk), fun q => by simp [upd] at q, fun _ => ⟨by simp [hsz], ?_⟩⟩, hsz⟩
        have h15 := (e5 h14).2
        have hu : upd L 14 15 = false := by simp [upd, h15]
        rw [hu, ← hsz]
        exact heap_alloc_new _ _
      case n15 =>
        intro L W q h15 _ h14
        obtain ⟨e1, e2, e3, e4, e5, e6⟩ := q
        have hb := (e6 h14).2
        rw [h15] at hb
        simp only [Bool.false_eq_true, if_false] at hb
        refine ⟨⟨e1, e2, e3, fun k hk => ?_, fun q => ?_, fun _ => ⟨by simp [(e6 h14).1], ?_⟩⟩, hb, by decide⟩
        · rw [heap_setCell_other _ _ _ _ (by show k ≠ w1.heap.size; omega), heap_setCell_other _ _ _ _ (by show k ≠ w1.heap.size; omega)]
          exact e4 k hk
        · simp [upd, h14] at q
        · rw [heap_setCell_same _ _ _ _ 40 _ (heap_setCell_same W w1.heap.size 0 _ 40 _ hb)]
          simp [upd]
      intro L w2 hall q
      obtain ⟨e1, e2, e3, e4, e5, e6⟩ := q
      obtain ⟨hs2, hF2⟩ := e6 (hall 14 (by decide))
      rw [hall 15 (by decide)] at hF2
      simp only [if_true] at hF2
      have b2 : Below w1.heap.size w1 w2 := ⟨e1, e2, e3, by omega, e4⟩
      have HP := hide (show PL w0 (K + 1) K Z { s with tag := Go.Proofs.Ytpelmacblglhoaa.ext s.tag w.heap.size (7, 5) } j x w.heap.size w1.heap.size #[I kind, I on, I n, S str, .slice a ks.length ck] w2 from
        ⟨(unhide HW1).below b2, unhide HX, (unhide HSO).only (Q := fun _ => False) (Only.of_below b2) (fun _ q => q.elim), (b2.block _ hwl1).trans (unhide HT1), hF2, unhide HT, unhide HTn _ (by omega)⟩)
      clear e1 e2 e3 e4 e5 e6 b2 hall HPk z0 z1 q0 q1 HB1 HSO HW1 HT1 HX HT HTn hs2 hF2
      simp only [Act.put, List.setIfInBounds_toArray, List.set_cons_succ, List.set_cons_zero]
      generalize hSS : ({ s with tag := Go.Proofs.Ytpelmacblglhoaa.ext s.tag w.heap.size (7, 5) } : Ws) = S5 at *
      have hhn5 : S5.hn ≤ 1000000 := by rw [← hSS]; exact hhn
      have hn51 : S5.f1 + S5.N1 ≤ 2 * K := by rw [← hSS]; exact hn1
      have hn52 : S5.f2 + S5.N2 ≤ 2 * K := by rw [← hSS]; exact hn2
      have hn53 : S5.sd.length ≤ K := by rw [← hSS]; exact hns
      clear hSS
      generalize w1.heap.size = F at *
      generalize w.heap.size = T at *
      have hP := unhide HP
      have c0 : w2.cell? ⟨T, 0, none⟩ = some (I kind) := cell_of_row _ _ 0 _ 35 (0, 0) hP.bT
      have c2 : w2.cell? ⟨T, 2, none⟩ = some (I n) := cell_of_row _ _ 2 _ 35 (0, 0) hP.bT
      have c3 : w2.cell? ⟨T, 3, none⟩ = some (S str) := cell_of_row _ _ 3 _ 35 (0, 0) hP.bT
      have c4 : w2.cell? ⟨T, 4, none⟩ = some (.slice a ks.length ck) := cell_of_row _ _ 4 _ 35 (0, 0) hP.bT
      have c1 : w2.cell? ⟨T, 1, none⟩ = some (I on) := cell_of_row _ _ 1 _ 35 (0, 0) hP.bT
      have g0 : w2.cell? ⟨F, 0, none⟩ = some (ptr x.D) := cell_of_row _ _ 0 _ 40 (0, 0) hP.bF
      have g1 : w2.cell? ⟨F, 1, none⟩ = some (ptr x.X) := cell_of_row _ _ 1 _ 40 (0, 0) hP.bF
      have lT := lt_of_row hP.bT
      have lF := lt_of_row hP.bF
      have HF := hide (And.intro hP.wi (And.intro hhn5 (And.intro hn51 (And.intro hn52 hn53))))
      obtain ⟨hnb1, hnb2⟩ := (unhide HR).b
      simp only at hnb1 hnb2
      clear hP hj hon1 hon2
      by_cases k1 : kind = 1
      · subst k1
        have hP := unhide HP
        have H1 := hide (read_any hP.so.dat hP.so.ok n)
        have H2 := hide (fun (W : World) (b : Below w2.heap.size w2 W) => rRead_any (hP.so.rat.below b) n)
        rw [hP.so.rel.read n, hP.so.rel.reach n] at H2
        generalize readS x.d n = rs at *
        generalize reachv x.d n = rc at *
        clear hP
        go_wp2_with fail
        refine (unhide H1).mono ?_
        rintro e w3 ⟨rfl, b3⟩
        have g1b := (b3.cell (p := ⟨F, 1, none⟩) lF).trans g1
        have c2b := (b3.cell (p := ⟨T, 2, none⟩) lT).trans c2
        have lTb := Nat.lt_of_lt_of_le lT b3.size
        have lFb := Nat.lt_of_lt_of_le lF b3.size
        have HR2 := hide (unhide H2 w3 b3)
        have HB3 := hide b3
        clear b3
        go_wp2_with fail
        refine (unhide HR2).mono ?_
        rintro e w4 ⟨rfl, hw4⟩
        subst hw4
        go_wp2
        go_ret
        exact ⟨by first | rfl | simp, S5, (unhide HF).1.below (unhide HB3), (unhide HF).2.1⟩
      · have e1 : (kind == 1) = false := by simpa using k1
        by_cases k2 : kind = 2
        · subst k2
          have hP := unhide HP
          have hac := hP.so.ac
          have H1 := hide (write_any hP.so.dat hP.so.ok ⟨hac.1, by omega⟩ n str)
          go_wp2_with fail
          refine (unhide H1).mono ?_
          rintro e w3 ⟨rfl, vw', hd3, o3, hv3⟩
          have hsub : ∀ k, k = x.D ∨ x.vw.ownBlock = some k → Of x.D x.vw x.vl k := fun k q => by rcases q with q | q; exact .inl q; exact .inr (.inl q)
          obtain ⟨kT, kF⟩ := hP.keep o3 (fun k q => .inl (hsub k q))
          have bT3 := kT.trans hP.bT
          have bF3 := kF.trans hP.bF
          have g1b : w3.cell? ⟨F, 1, none⟩ = some (ptr x.X) := cell_of_row _ _ 1 _ 40 (0, 0) bF3
          have c2b : w3.cell? ⟨T, 2, none⟩ = some (I n) := cell_of_row _ _ 2 _ 35 (0, 0) bT3
          have c3b : w3.cell? ⟨T, 3, none⟩ = some (S str) := cell_of_row _ _ 3 _ 35 (0, 0) bT3
          have lTb := lt_of_row bT3
          have lFb := lt_of_row bF3
          have hr3 := hP.so.rat.only o3 (fun k hk q => hP.so.ap k (hsub k q) hk)
          have H2 := hide (rWrite_any hr3 (hP.so.rel.leftb hP.so.ok) (by rw [hP.so.rel.done]; exact ⟨hac.1, by omega⟩) n str)
          rw [hP.so.rel.writev n str] at H2
          have HD := hide (And.intro hd3 (And.intro o3 hv3))
          generalize writev x.d n str = pv at *
          clear hP hd3 o3 hsub kT kF bT3 bF3 hr3 hv3
          go_wp2_with fail
          refine (unhide H2).mono ?_
          rintro e w4 ⟨rfl, hr4, o4⟩
          have hP := unhide HP
          obtain ⟨hd3, o3, hv3⟩ := unhide HD
          have hq2 : ∀ k, OfR x.X x.ul x.ui x.up k → OfR x.X x.ul x.ui x.up k := fun k q => q
          have o4' : Only (OfR x.X x.ul x.ui x.up) w3 w4 := o4.mono (fun k _ q => hq2 k q)
          have hd4 := hP.so.keepD hd3 hv3 o4'
          obtain ⟨s6, hw6, hh6⟩ := hP.wi.done hP.hx hP.so ((o3.mono (fun k _ q => Or.inl (by rcases q with q | q; exact .inl q; exact .inr (.inl q)))).trans o4' (fun k _ q => Or.inr q)) hd4 hr4 (hP.so.ok.write n str) (hP.so.rel.write n str) (by have := acts_write x.d n str; exact ⟨by omega, by push_cast; omega⟩) hv3
          have HE := hide (And.intro hw6 hh6)
          clear hP hd3 o3 hv3 hq2 o4 o4' hd4 hw6 hh6 hr4
          go_wp2
          go_ret
          exact ⟨by first | rfl | simp, s6, (unhide HE).1, by rw [(unhide HE).2]; exact (unhide HF).2.1⟩
        · have e2 : (kind == 2) = false := by simpa using k2
          by_cases k3 : kind = 3
          · subst k3
            exact absurd rfl (unhide HNK).1
          · have e3 : (kind == 3) = false := by simpa using k3
            by_cases k4 : kind = 4
            · subst k4
              have hP := unhide HP
              have hac := hP.so.ac
              have H1 := hide (sync_any hP.so.dat hP.so.ok ⟨hac.1, by omega⟩)
              go_wp2_with fail
              refine (unhide H1).mono ?_
              rintro e w3 ⟨rfl, vw', hd3, o3, hv0⟩
              have hv3 : ∀ k, vw'.ownBlock = some k → x.vw.ownBlock = some k ∨ w2.heap.size ≤ k := fun k q => .inl (hv0 k q)
              clear hv0
              have hsub : ∀ k, k = x.D ∨ x.vl.ownBlock = some k → Of x.D x.vw x.vl k := fun k q => by rcases q with q | q; exact .inl q; exact .inr (.inr q)
              obtain ⟨kT, kF⟩ := hP.keep o3 (fun k q => .inl (hsub k q))
              have bT3 := kT.trans hP.bT
              have bF3 := kF.trans hP.bF
              have g1b : w3.cell? ⟨F, 1, none⟩ = some (ptr x.X) := cell_of_row _ _ 1 _ 40 (0, 0) bF3
              have c2b : w3.cell? ⟨T, 2, none⟩ = some (I n) := cell_of_row _ _ 2 _ 35 (0, 0) bT3
              have c3b : w3.cell? ⟨T, 3, none⟩ = some (S str) := cell_of_row _ _ 3 _ 35 (0, 0) bT3
              have lTb := lt_of_row bT3
              have lFb := lt_of_row bF3
              have hr3 := hP.so.rat.only o3 (fun k hk q => hP.so.ap k (hsub k q) hk)
              have H2 := hide (rSync_any hr3 (by rw [hP.so.rel.l]; exact hP.so.ok.len.1) (by rw [hP.so.rel.l]; exact hP.so.ok.len.2) (hP.so.rel.leftb hP.so.ok) (by rw [hP.so.rel.done]; exact ⟨hac.1, by omega⟩))
              rw [hP.so.rel.syncv] at H2
              have HD := hide (And.intro hd3 (And.intro o3 hv3))
              generalize syncv x.d = pv at *
              clear hP hd3 o3 hsub kT kF bT3 bF3 hr3 hv3
              go_wp2_with fail
              refine (unhide H2).mono ?_
              rintro e w4 ⟨rfl, hr4, o4⟩
              have hP := unhide HP
              obtain ⟨hd3, o3, hv3⟩ := unhide HD
              have hq2 : ∀ k, OfR x.X x.ul x.ui x.up k → OfR x.X x.ul x.ui x.up k := fun k q => q
              have o4' : Only (OfR x.X x.ul x.ui x.up) w3 w4 := o4.mono (fun k _ q => hq2 k q)
              have hd4 := hP.so.keepD hd3 hv3 o4'
              obtain ⟨s6, hw6, hh6⟩ := hP.wi.done hP.hx hP.so ((o3.mono (fun k _ q => Or.inl (by rcases q with q | q; exact .inl q; exact .inr (.inr q)))).trans o4' (fun k _ q => Or.inr q)) hd4 hr4 (hP.so.ok.sync) (hP.so.rel.sync hP.so.ok) (by have := acts_sync x.d; exact ⟨by omega, by push_cast; omega⟩) hv3
              have HE := hide (And.intro hw6 hh6)
              clear hP hd3 o3 hv3 hq2 o4 o4' hd4 hw6 hh6 hr4
              go_wp2
              go_ret
              exact ⟨by first | rfl | simp, s6, (unhide HE).1, by rw [(unhide HE).2]; exact (unhide HF).2.1⟩
            · have e4 : (kind == 4) = false := by simpa using k4
              by_cases k5 : kind = 5
              · subst k5
                have hP := unhide HP
                have hac := hP.so.ac
                have H1 := hide (arm_any hP.so.dat n)
                go_wp2_with fail
                refine (unhide H1).mono ?_
                rintro e w3 ⟨rfl, hd3, o3⟩
                have hv3 : ∀ k, x.vw.ownBlock = some k → x.vw.ownBlock = some k ∨ w2.heap.size ≤ k := fun k q => .inl q
                have hsub : ∀ k, k = x.D → Of x.D x.vw x.vl k := fun k q => by exact .inl q
                obtain ⟨kT, kF⟩ := hP.keep o3 (fun k q => .inl (hsub k q))
                have bT3 := kT.trans hP.bT
                have bF3 := kF.trans hP.bF
                have g1b : w3.cell? ⟨F, 1, none⟩ = some (ptr x.X) := cell_of_row _ _ 1 _ 40 (0, 0) bF3
                have c2b : w3.cell? ⟨T, 2, none⟩ = some (I n) := cell_of_row _ _ 2 _ 35 (0, 0) bT3
                have c3b : w3.cell? ⟨T, 3, none⟩ = some (S str) := cell_of_row _ _ 3 _ 35 (0, 0) bT3
                have lTb := lt_of_row bT3
                have lFb := lt_of_row bF3
                have hr3 := hP.so.rat.only o3 (fun k hk q => hP.so.ap k (hsub k q) hk)
                have H2 := hide (rArm_any hr3 n)
                rw [hP.so.rel.armv n] at H2
                have HD := hide (And.intro hd3 (And.intro o3 hv3))
                generalize armv x.d n = pv at *
                clear hP hd3 o3 hsub kT kF bT3 bF3 hr3 hv3
                go_wp2_with fail
                refine (unhide H2).mono ?_
                rintro e w4 ⟨rfl, hr4, o4⟩
                have hP := unhide HP
                obtain ⟨hd3, o3, hv3⟩ := unhide HD
                have hq2 : ∀ k, k = x.X → OfR x.X x.ul x.ui x.up k := fun k q => .inl q
                have o4' : Only (OfR x.X x.ul x.ui x.up) w3 w4 := o4.mono (fun k _ q => hq2 k q)
                have hd4 := hP.so.keepD hd3 hv3 o4'
                obtain ⟨s6, hw6, hh6⟩ := hP.wi.done hP.hx hP.so ((o3.mono (fun k _ q => Or.inl (by exact .inl q))).trans o4' (fun k _ q => Or.inr q)) hd4 hr4 (hP.so.ok.arm hnb2) (hP.so.rel.arm n) (by rw [acts_arm]; exact ⟨by omega, by push_cast; omega⟩) hv3
                have HE := hide (And.intro hw6 hh6)
                clear hP hd3 o3 hv3 hq2 o4 o4' hd4 hw6 hh6 hr4
                go_wp2
                go_ret
                exact ⟨by first | rfl | simp, s6, (unhide HE).1, by rw [(unhide HE).2]; exact (unhide HF).2.1⟩
              · have e5 : (kind == 5) = false := by simpa using k5
                by_cases k6 : kind = 6
                · subst k6
                  have hP := unhide HP
                  have H1 := hide (lists_wi hP.wi hP.hx 6 on n str (.slice a ks.length ck) (by have := (unhide HF).2.2.1; omega) (by have := (unhide HF).2.2.2.1; omega) (by omega))
                  clear hP
                  go_wp2_with fail
                  refine (unhide H1).mono ?_
                  rintro e w3 ⟨rfl, s6, hw6, hs6, hh6⟩
                  have HE := hide (And.intro hw6 hh6)
                  clear hw6 hs6 hh6
                  go_wp2
                  go_ret
                  exact ⟨rfl, s6, (unhide HE).1, by rw [(unhide HE).2]; exact (unhide HF).2.1⟩
                · have e6 : (kind == 6) = false := by simpa using k6
                  by_cases k7 : kind = 7
                  · subst k7
                    have hP := unhide HP
                    have H1 := hide (lists_wi hP.wi hP.hx 7 on n str (.slice a ks.length ck) (by have := (unhide HF).2.2.1; omega) (by have := (unhide HF).2.2.2.1; omega) (by omega))
                    clear hP
                    go_wp2_with fail
                    refine (unhide H1).mono ?_
                    rintro e w3 ⟨rfl, s6, hw6, hs6, hh6⟩
                    have HE := hide (And.intro hw6 hh6)
                    clear hw6 hs6 hh6
                    go_wp2
                    go_ret
                    exact ⟨rfl, s6, (unhide HE).1, by rw [(unhide HE).2]; exact (unhide HF).2.1⟩
                  · have e7 : (kind == 7) = false := by simpa using k7
                    by_cases k8 : kind = 8
                    · subst k8
                      have hP := unhide HP
                      have hkw : Kls w2 a ks.length ks := by
                        refine ⟨rfl, fun h0 => ?_⟩
                        obtain ⟨p, o, e, hc⟩ := (unhide HK).2 h0
                        exact ⟨p, o, e, fun t ht => ⟨(hP.wi.old.cell (p := ⟨p, _, none⟩) (blk_lt (hc t ht).1)).trans (hc t ht).1, (hP.wi.old.cell (p := ⟨p, _, none⟩) (blk_lt (hc t ht).1)).trans (hc t ht).2⟩⟩
                      have hko : ∀ p o, a = some ⟨p, o, none⟩ → 0 < ks.length → ¬ Of x.D x.vw x.vl p ∧ ¬ OfR x.X x.ul x.ui x.up p := fun p o e h0 => by
                        obtain ⟨p', o', e', hc⟩ := (unhide HK).2 h0
                        rw [e] at e'
                        cases e'
                        have ht := hP.wi.told p (blk_lt (hc 0 h0).1)
                        exact ⟨fun q => by rw [hP.so.td p q] at ht; exact absurd ht (tg_ne (by decide)), fun q => by rw [hP.so.tr p q] at ht; exact absurd ht (tg_ne (by decide))⟩
                      have hm := (unhide HR).m
                      simp only at hm
                      have H1 := hide (crash_side hP.so.dat hP.so.rat hP.so.ok hP.so.rel a ks.length ck ks hkw hm hko hP.so.ap)
                      clear hP hkw hko
                      go_wp2_with fail
                      refine (unhide H1).mono ?_
                      rintro e w3 ⟨rfl, vw', hd3, hr3, o3, hv3⟩
                      have hP := unhide HP
                      obtain ⟨s6, hw6, hh6⟩ := hP.wi.done hP.hx hP.so o3 hd3 hr3 (hP.so.ok.crash ks) (hP.so.rel.crash hP.so.ok ks) (by have := hP.so.ac; rw [acts_crash]; exact ⟨by omega, by push_cast; omega⟩) (fun k q => .inl (hv3 k q))
                      have HE := hide (And.intro hw6 hh6)
                      clear hP hw6 hh6 hd3 hr3 o3 hv3
                      go_wp2
                      go_ret
                      exact ⟨rfl, s6, (unhide HE).1, by rw [(unhide HE).2]; exact (unhide HF).2.1⟩
                    · have e8 : (kind == 8) = false := by simpa using k8
                      by_cases k9 : kind = 9
                      · subst k9
                        exact absurd rfl (unhide HNK).2
                      · have e9 : (kind == 9) = false := by simpa using k9
                        by_cases k10 : kind = 10
                        · subst k10
                          have hP := unhide HP
                          have H1 := hide (rBlocks_any hP.so.rat (by rw [hP.so.rel.l]; exact hP.so.ok.len.1) (by rw [hP.so.rel.l]; exact hP.so.ok.len.2))
                          clear hP
                          go_wp2_with fail
                          refine (unhide H1).mono ?_
                          rintro e w3 ⟨V, rfl, r3, n3, b3⟩
                          have hP := unhide HP
                          have hlo : LO w0 (K + 1) Z V x.r.l { S5 with tag := Go.Proofs.Ytpelmacblglhoaa.ext S5.tag w2.heap.size (7, 0) } w3 := ⟨(hP.wi.ext (7, 0)).below b3, r3, fun k hk => ext_new (n3 k hk)⟩
                          have H2 := hide (loads_wi hlo (by rw [hP.so.rel.l]; exact hP.so.ok.len.2) (by have := (unhide HF).2.2.2.2; simp only; omega) (by omega) (unhide HF).2.1)
                          clear hP hlo r3 n3 b3
                          go_wp2_with fail
                          refine (unhide H2).mono ?_
                          rintro e w4 ⟨rfl, s6, hw6, -, -, hh6⟩
                          have HE := hide (And.intro hw6 hh6)
                          clear hw6 hh6
                          go_wp2
                          go_ret
                          exact ⟨rfl, s6, (unhide HE).1, (unhide HE).2⟩
                        · have e10 : (kind == 10) = false := by simpa using k10
                          have hP := unhide HP
                          have B1 := hide (fun m => Calls.mono (size_any (hP.so.dat.below (below_drewN w2 m))) (fun e w' (q : e = .returned (I x.d.last.length) ∧ w' = w2.drewN m) => (⟨q.1, m, q.2⟩ : e = .returned (I x.d.last.length) ∧ ∃ k, w' = w2.drewN k)))
                          have B2 := hide (fun m => Calls.mono (rSize_any (hP.so.rat.below (below_drewN w2 m))) (fun e w' (q : e = .returned (I x.r.l.length) ∧ w' = w2.drewN m) => (⟨q.1, m, q.2⟩ : e = .returned (I x.r.l.length) ∧ ∃ k, w' = w2.drewN k)))
                          have B3 := hide (fun m => Calls.mono (dead_any (hP.so.dat.below (below_drewN w2 m))) (fun e w' (q : e = .returned (.bool x.d.dead) ∧ w' = w2.drewN m) => (⟨q.1, m, q.2⟩ : e = .returned (.bool x.d.dead) ∧ ∃ k, w' = w2.drewN k)))
                          have B4 := hide (fun m => Calls.mono (acts_any (hP.so.dat.below (below_drewN w2 m))) (fun e w' (q : e = .returned (I x.d.acts) ∧ w' = w2.drewN m) => (⟨q.1, m, q.2⟩ : e = .returned (I x.d.acts) ∧ ∃ k, w' = w2.drewN k)))
                          rw [hP.so.rel.l] at B2
                          obtain ⟨-, -, -, -, v4, v5⟩ := hP.so.rat.c
                          have lX := hP.so.rat.lt
                          rw [hP.so.rel.dead] at v4
                          rw [hP.so.rel.done] at v5
                          generalize x.d.last.length = xl at *
                          generalize x.d.dead = xd at *
                          generalize x.d.acts = xa at *
                          clear hP
                          go_wp2
                          go_quiet (first
                            | (go_at_call 23; with_reducible exact unhide B1 _)
                            | (go_at_call 33; with_reducible exact unhide B2 _)
                            | (go_at_call 16; with_reducible exact unhide B3 _)
                            | (go_at_call 17; with_reducible exact unhide B4 _))
                          go_wp2
                          go_ret
                          exact ⟨by first | rfl | simp, S5, (unhide HF).1.below (below_drewN w2 _), (unhide HF).2.1⟩
end Go.Proofs.Ytpelmacblglhoaa
