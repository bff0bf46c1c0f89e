import Derived.Test.YtpelmacblglhoaaZzbv
import Derived.Test.YtpelmacblglhoaaRgpl
import Derived.Test.YtpelmacblglhoaaRgpq
import Derived.BigQuiet
namespace Go.Proofs.Ytpelmacblglhoaa
open Go.RowKit
set_option maxHeartbeats 16000000
set_option maxRecDepth 16000
theorem play_3 {w0 w : World} {K Z : Nat} {s : Ws} (h : WI w0 K Z none s w) (kind on n : Int) (str : Bs) (ks : List Kp) (a : Option Addr) (ck : Nat) (hk : Kls w0 a ks.length ks) (hr : Opr ⟨kind, on, n, str, ks⟩) (hK : K + 1 ≤ 5000000) (hhn : s.hn ≤ 1000000) (hnk : kind = 3) :
    Calls Try.prog 7 #[ptr Z, .agg #[I kind, I on, I n, S str, .slice a ks.length ck]] w fun e w' => e = .returned (.bool true) ∧ ∃ s', WI w0 (K + 1) Z none s' w' ∧ s'.hn ≤ 1000000 := by
  have HNK := hide hnk
  clear hnk
  have hz := heap_alloc_new w (.cells #[I kind, I on, I n, S str, .slice a ks.length ck] 35)
  have ba := (Below.refl w.heap.size w).alloc (Nat.le_refl _) (.cells #[I kind, I on, I n, S str, .slice a ks.length ck] 35)
  have h0 := (h.ext (7, 5)).below ba
  have H0 := hide h0
  have HM := hide (makes_wi (h0.mono (Nat.le_succ K)) ⟨kind, on, n, str, ks⟩ (.slice a ks.length ck) hr (by have := h.ns; simp only; omega) (by omega) hhn)
  have y : ∀ i, (w.alloc (.cells #[I kind, I on, I n, S str, .slice a ks.length ck] 35)).cell? ⟨w.heap.size, i, none⟩ = (#[I kind, I on, I n, S str, .slice a ks.length ck] : Array Value)[i]? := fun i => cell_of_row _ _ i _ 35 (0, 0) hz
  have y0 := y 0
  have y1 := y 1
  have y2 := y 2
  have y3 := y 3
  have y4 := y 4
  simp only [List.getElem?_toArray, List.getElem?_cons_zero, List.getElem?_cons_succ] at y0 y1 y2 y3 y4
  have HZ := hide hz
  have HR := hide hr
  have HK := hide hk
  have hwl := lt_of_row hz
  have hns := h.ns
  have hn1 := h.n1
  have hn2 := h.n2
  have HT := hide (show Go.Proofs.Ytpelmacblglhoaa.ext s.tag w.heap.size (7, 5) w.heap.size = (7, 5) from ext_new (Nat.le_refl _))
  have HTn := hide (show ∀ k, w.heap.size ≤ k → Go.Proofs.Ytpelmacblglhoaa.ext s.tag w.heap.size (7, 5) k = (7, 5) from fun k q => ext_new q)
  clear h hz ba h0 y hk hr
  go_enter Try.func7, Try.ntmps7
  go_wp2_with fail
  generalize w.alloc (.cells #[I kind, I on, I n, S str, .slice a ks.length ck] 35) = wb at *
  refine (unhide HM).mono ?_
  rintro e w1 ⟨rfl, s1, hw1, hl1, hsm1, hh1, hnd⟩
  by_cases hd : kind = 12 ∨ kind = 11
  · have hdd : (decide (kind = 12) || decide (kind = 11)) = true := by simpa using hd
    have HF := hide (And.intro hw1 hh1)
    rw [hdd]
    clear hw1 hnd hsm1 hl1 hh1 hd hdd
    go_wp2
    go_ret
    exact ⟨rfl, s1, (unhide HF).1, (unhide HF).2⟩
  · have hdd : (decide (kind = 12) || decide (kind = 11)) = false := by simpa using hd
    rw [hdd]
    obtain ⟨rfl, b1⟩ := hnd hd
    have HD := hide hd
    obtain ⟨pl, cl, hpl⟩ := owns_form hw1.rl
    simp only at hpl
    have z0 : w1.cell? ⟨Z, 0, none⟩ = some (.slice pl s.sd.length cl) := by rw [hw1.cell 0]; show some s.vl = _; rw [hpl]
    have hZ1 := hw1.lt
    by_cases hs0 : s.sd.length = 0
    · have hs0' : ((s.sd.length : Nat) : Int) = 0 := by omega
      have HF := hide hw1
      clear hw1 hsm1 hl1 hnd hd hdd b1 hs0 hpl
      go_wp2
      go_ret
      exact ⟨by first | rfl | simp, _, unhide HF, hhn⟩
    · have hs0' : ¬ ((s.sd.length : Nat) : Int) = 0 := by omega
      have hs1' : (((s.sd.length : Nat) : Int) == 0) = false := by simpa using hs0'
      obtain ⟨hon1, hon2⟩ := (unhide HR).a
      simp only at hon1 hon2
      have HPk := hide (fun W => pick_any on s.sd.length W (by omega) (by omega) hon1 hon2)
      have hj := pkv_lt on s.sd.length (by omega)
      generalize pkv on s.sd.length = j at *
      obtain ⟨x, hx⟩ : ∃ x, s.sd[j]? = some x := ⟨_, List.getElem?_eq_getElem hj⟩
      obtain ⟨g, cg, cur, eg, -⟩ := owns_at hw1.rl (show 0 < s.sd.length by omega)
      simp only at eg
      rw [hpl] at eg
      cases eg
      have hrl := hw1.rl
      simp only at hrl
      rw [hpl] at hrl
      have hcs := cellsS_at _ j x hx
      have q0 := owns_cell hrl _ _ hcs.1
      have q1 := owns_cell hrl _ _ hcs.2
      have hgl := blk_lt q0
      have z1 : w1.cell? ⟨w.heap.size, 1, none⟩ = some (I on) := (b1.cell (p := ⟨w.heap.size, 1, none⟩) hwl).trans y1
      have hwl1 := Nat.lt_of_lt_of_le hwl b1.size
      have hT1 : w1.heap[w.heap.size]? = some (.cells #[I kind, I on, I n, S str, .slice a ks.length ck] 35 (0, 0)) := (b1.block _ hwl).trans (unhide HZ)
      have HB1 := hide b1
      have HSO := hide (((unhide H0).below b1).so j x hx (by simp))
      have HW1 := hide hw1
      have HT1 := hide hT1
      have HX := hide hx
      have hFw : w.heap.size < w1.heap.size := hwl1
      clear hw1 hsm1 hl1 hnd hd b1 hpl hrl hcs hT1 hx hdd y0 y1 y2 y3 y4 HM H0 HZ
      go_wp2_with fail
      refine rpl Z g s.sd.length cl w.heap.size j x.D x.X w1.heap.size on rfl rfl rfl _ _ (show 47 ≤ 203 from by decide) rfl rfl (fun L W => W.os = w1.os ∧ W.tape = w1.tape ∧ W.output = w1.output ∧ (∀ k, k < w1.heap.size → W.heap[k]? = w1.heap[k]?) ∧ (L 14 = false → W.heap.size = w1.heap.size ∧ L 15 = false) ∧ (L 14 = true → W.heap.size = w1.heap.size + 1 ∧ W.heap[w1.heap.size]? = some (.cells (if L 15 then #[ptr x.D, ptr x.X] else #[.pointer none, .pointer none]) 40 (0, 0)))) ?h0 ?hp hj ?l3 ?l5 ?l9 ?l13 ?c11 ?n14 ?n15 ?_
      case h0 => exact ⟨rfl, rfl, rfl, fun _ _ => rfl, fun _ => ⟨rfl, rfl⟩, fun h => by cases h⟩
      case hp =>
        intro i hi L W q
        have h14 : i ≠ 14 := by rintro rfl; simp at hi
        have h15 : i ≠ 15 := by rintro rfl; simp at hi
        simpa only [upd, Ne.symm h14, Ne.symm h15, if_false] using q
      case l3 => exact fun L W q => (World.cell?_of_block (q.2.2.2.1 Z hZ1)).trans z0
      case l5 => exact fun L W q => (World.cell?_of_block (q.2.2.2.1 _ hwl1)).trans z1
      case l9 => exact fun L W q => (World.cell?_of_block (q.2.2.2.1 Z hZ1)).trans z0
      case l13 =>
        intro L W q
        rw [Nat.zero_add]
        exact ⟨(World.cell?_of_block (q.2.2.2.1 g hgl)).trans q0, (World.cell?_of_block (q.2.2.2.1 g hgl)).trans q1⟩
      case c11 =>
        intro L W q h5
        refine (unhide HPk W).mono ?_
        rintro e w2 ⟨rfl, rfl⟩
        exact ⟨rfl, by simpa [upd] using q⟩
      case n14 =>
        intro L W q h14
        obtain ⟨e1, e2, e3, e4, e5, e6⟩ := q
        have hsz := (e5 h14).1
        refine ⟨⟨e1, e2, e3, fun k hk => (heap_alloc_old _ _ (by omega)).trans (e4 k hk), fun q => by simp [upd] at q, fun _ => ⟨by simp [hsz], ?_⟩⟩, hsz⟩
        have h15 := (e5 h14).2
        have hu : upd L 14 15 = false := by simp [upd, h15]
        rw [hu, ← hsz]
        exact heap_alloc_new _ _
      case n15 =>
        intro L W q h15 _ h14
        obtain ⟨e1, e2, e3, e4, e5, e6⟩ := q
        have hb := (e6 h14).2
        rw [h15] at hb
        simp only [Bool.false_eq_true, if_false] at hb
        refine ⟨⟨e1, e2, e3, fun k hk => ?_, fun q => ?_, fun _ => ⟨by simp [(e6 h14).1], ?_⟩⟩, hb, by decide⟩
        · rw [heap_setCell_other _ _ _ _ (by show k ≠ w1.heap.size; omega), heap_setCell_other _ _ _ _ (by show k ≠ w1.heap.size; omega)]
          exact e4 k hk
        · simp [upd, h14] at q
        · rw [heap_setCell_same _ _ _ _ 40 _ (heap_setCell_same W w1.heap.size 0 _ 40 _ hb)]
          simp [upd]
      intro L w2 hall q
      obtain ⟨e1, e2, e3, e4, e5, e6⟩ := q
      obtain ⟨hs2, hF2⟩ := e6 (hall 14 (by decide))
      rw [hall 15 (by decide)] at hF2
      simp only [if_true] at hF2
      have b2 : Below w1.heap.size w1 w2 := ⟨e1, e2, e3, by omega, e4⟩
      have HP := hide (show PL w0 (K + 1) K Z { s with tag := Go.Proofs.Ytpelmacblglhoaa.ext s.tag w.heap.size (7, 5) } j x w.heap.size w1.heap.size #[I kind, I on, I n, S str, .slice a ks.length ck] w2 from
        ⟨(unhide HW1).below b2, unhide HX, (unhide HSO).only (Q := fun _ => False) (Only.of_below b2) (fun _ q => q.elim), (b2.block _ hwl1).trans (unhide HT1), hF2, unhide HT, unhide HTn _ (by omega)⟩)
      clear e1 e2 e3 e4 e5 e6 b2 hall HPk z0 z1 q0 q1 HB1 HSO HW1 HT1 HX HT HTn hs2 hF2
      simp only [Act.put, List.setIfInBounds_toArray, List.set_cons_succ, List.set_cons_zero]
      generalize hSS : ({ s with tag := Go.Proofs.Ytpelmacblglhoaa.ext s.tag w.heap.size (7, 5) } : Ws) = S5 at *
      have hhn5 : S5.hn ≤ 1000000 := by rw [← hSS]; exact hhn
      have hn51 : S5.f1 + S5.N1 ≤ 2 * K := by rw [← hSS]; exact hn1
      have hn52 : S5.f2 + S5.N2 ≤ 2 * K := by rw [← hSS]; exact hn2
      have hn53 : S5.sd.length ≤ K := by rw [← hSS]; exact hns
      clear hSS
      generalize w1.heap.size = F at *
      generalize w.heap.size = T at *
      have hP := unhide HP
      have c0 : w2.cell? ⟨T, 0, none⟩ = some (I kind) := cell_of_row _ _ 0 _ 35 (0, 0) hP.bT
      have c2 : w2.cell? ⟨T, 2, none⟩ = some (I n) := cell_of_row _ _ 2 _ 35 (0, 0) hP.bT
      have c3 : w2.cell? ⟨T, 3, none⟩ = some (S str) := cell_of_row _ _ 3 _ 35 (0, 0) hP.bT
      have c4 : w2.cell? ⟨T, 4, none⟩ = some (.slice a ks.length ck) := cell_of_row _ _ 4 _ 35 (0, 0) hP.bT
      have c1 : w2.cell? ⟨T, 1, none⟩ = some (I on) := cell_of_row _ _ 1 _ 35 (0, 0) hP.bT
      have g0 : w2.cell? ⟨F, 0, none⟩ = some (ptr x.D) := cell_of_row _ _ 0 _ 40 (0, 0) hP.bF
      have g1 : w2.cell? ⟨F, 1, none⟩ = some (ptr x.X) := cell_of_row _ _ 1 _ 40 (0, 0) hP.bF
      have lT := lt_of_row hP.bT
      have lF := lt_of_row hP.bF
      have HF := hide (And.intro hP.wi (And.intro hhn5 (And.intro hn51 (And.intro hn52 hn53))))
      obtain ⟨hnb1, hnb2⟩ := (unhide HR).b
      simp only at hnb1 hnb2
      clear hP hj hon1 hon2
      by_cases k1 : kind = 1
      · subst k1
        exact absurd (unhide HNK) (by decide)
      · have e1 : (kind == 1) = false := by simpa using k1
        by_cases k2 : kind = 2
        · subst k2
          exact absurd (unhide HNK) (by decide)
        · have e2 : (kind == 2) = false := by simpa using k2
          by_cases k3 : kind = 3
          · subst k3
            have hP := unhide HP
            have hxl : x.r.l.length = x.d.last.length := by rw [hP.so.rel.l]
            have hln := hP.so.ok.len
            have B1 := hide (fun m => Calls.mono (rSize_any (hP.so.rat.below (below_drewN w2 m))) (fun e w' (q : e = .returned (I x.r.l.length) ∧ w' = w2.drewN m) => (⟨q.1, m, q.2⟩ : e = .returned (I x.r.l.length) ∧ ∃ k, w' = w2.drewN k)))
            rw [hxl] at B1
            have B2 := hide (fun m => Calls.mono (pick_any n x.d.last.length (w2.drewN m) (by omega) (by omega) hnb1 hnb2) (fun e w' (q : e = .returned (.int .i64 ((pkv n x.d.last.length : Nat) : Int)) ∧ w' = w2.drewN m) => (⟨q.1, m, q.2⟩ : e = .returned (.int .i64 ((pkv n x.d.last.length : Nat) : Int)) ∧ ∃ k, w' = w2.drewN k)))
            generalize pkv n x.d.last.length = m9 at *
            generalize x.d.last.length = xl at *
            clear hP hxl
            go_wp2
            go_quiet (first
              | (go_at_call 33; with_reducible exact unhide B1 _)
              | (go_at_call 8; with_reducible exact unhide B2 _))
            have HP9 := hide ((unhide HP).below (below_drewN w2 nq))
            generalize w2.drewN nq = W9 at *
            clear HP HF B1 B2 c0 c1 c2 c3 c4 g0 g1 lT lF
            have hP := unhide HP9
            have g0 : W9.cell? ⟨F, 0, none⟩ = some (ptr x.D) := cell_of_row _ _ 0 _ 40 (0, 0) hP.bF
            have c3 : W9.cell? ⟨T, 3, none⟩ = some (S str) := cell_of_row _ _ 3 _ 35 (0, 0) hP.bT
            have lT := lt_of_row hP.bT
            have lF := lt_of_row hP.bF
            have hac := hP.so.ac
            have HBk := hide (fun W => block_any ((str.length : Nat) : Int) W)
            have HW1 := hide (fun (W : World) (b : Below W9.heap.size W9 W) (bk : Bs) => write_any (hP.below b).so.dat hP.so.ok ⟨hac.1, by omega⟩ (m9 : Int) bk)
            generalize blkv ((str.length : Nat) : Int) = bk at *
            clear hP
            go_wp2_with fail
            refine rqa F T x.D m9 (writev x.d (m9 : Int) bk) str bk rfl rfl rfl _ _ (show 109 ≤ 203 from by decide) rfl rfl rfl (fun L W => (W.cell? ⟨F, 0, none⟩ = some (ptr x.D) ∧ W.cell? ⟨T, 3, none⟩ = some (S str)) ∧ (L 7 = true → L 6 = true) ∧ (L 7 = false → Below W9.heap.size W9 W) ∧ (L 7 = true → ∃ w3 vw', Below W9.heap.size W9 w3 ∧ DAt x.D (x.d.write (m9 : Int) bk) vw' x.vl W ∧ Only (fun k => k = x.D ∨ x.vw.ownBlock = some k) w3 W ∧ (∀ k, vw'.ownBlock = some k → x.vw.ownBlock = some k ∨ w3.heap.size ≤ k))) ?h0 ?hp ?l1 ?l4 ?c6 ?c7 ?_
            case h0 => exact ⟨⟨g0, c3⟩, fun h => (by cases h), fun _ => (Below.refl _ _).drew, fun h => (by cases h)⟩
            case hp =>
              intro i hi L W q
              have h6 : i ≠ 6 := by rintro rfl; simp at hi
              have h7 : i ≠ 7 := by rintro rfl; simp at hi
              simpa only [upd, Ne.symm h6, Ne.symm h7, if_false] using q
            case l1 => exact fun L W q => q.1.1
            case l4 => exact fun L W q => q.1.2
            case c6 =>
              intro L W q h6
              have h7 : L 7 = false := Bool.eq_false_iff.2 (fun h => by have := q.2.1 h; rw [h6] at this; cases this)
              refine (unhide HBk W).mono ?_
              rintro e w' ⟨rfl, b3⟩
              have hu : upd L 6 7 = false := by simp [upd, h7]
              refine ⟨rfl, ⟨(b3.cell (p := ⟨F, 0, none⟩) (blk_lt q.1.1)).trans q.1.1, (b3.cell (p := ⟨T, 3, none⟩) (blk_lt q.1.2)).trans q.1.2⟩, fun h => (by rw [hu] at h; cases h), fun _ => (q.2.2.1 h7).trans (b3.mono (q.2.2.1 h7).size), fun h => (by rw [hu] at h; cases h)⟩
            case c7 =>
              intro L W q h7 _ _ h6
              have b := q.2.2.1 h7
              refine (unhide HW1 W b bk).mono ?_
              rintro e w' ⟨rfl, vw', hd4, o4, hv4⟩
              have hP3 := (unhide HP9).below b
              obtain ⟨kT, kF⟩ := hP3.keep o4 (fun k q => .inl (by rcases q with q | q; exact .inl q; exact .inr (.inl q)))
              exact ⟨rfl, ⟨cell_of_row _ _ 0 _ 40 (0, 0) (kF.trans hP3.bF), cell_of_row _ _ 3 _ 35 (0, 0) (kT.trans hP3.bT)⟩, fun _ => (by simp [upd, h6]), fun h => (by simp [upd] at h), fun _ => ⟨W, vw', b, hd4, o4, hv4⟩⟩
            intro L4 w4 hall4 q4
            obtain ⟨w3, vw', b3, hd4, o4, hv4⟩ := q4.2.2.2 (hall4 7 (by decide))
            have HW4 := hide (And.intro hd4 (And.intro o4 hv4))
            have HB3 := hide b3
            have hP3 := (unhide HP9).below b3
            have hsub : ∀ k, k = x.D ∨ x.vw.ownBlock = some k → Of x.D x.vw x.vl k := fun k q => by rcases q with q | q; exact .inl q; exact .inr (.inl q)
            obtain ⟨kT, kF⟩ := hP3.keep o4 (fun k q => .inl (hsub k q))
            have g1d : w4.cell? ⟨F, 1, none⟩ = some (ptr x.X) := cell_of_row _ _ 1 _ 40 (0, 0) (kF.trans hP3.bF)
            have c3d : w4.cell? ⟨T, 3, none⟩ = some (S str) := cell_of_row _ _ 3 _ 35 (0, 0) (kT.trans hP3.bT)
            have hr4 := hP3.so.rat.only o4 (fun k hk q => hP3.so.ap k (hsub k q) hk)
            have HW2 := hide (fun (W : World) (b : Below w4.heap.size w4 W) (bk : Bs) => rWrite_any (hr4.below b) (hP3.so.rel.leftb hP3.so.ok) (by rw [hP3.so.rel.done]; exact ⟨hac.1, by omega⟩) (m9 : Int) bk)
            have HEq := hide (hP3.so.rel.writev (m9 : Int) bk)
            have HnR := hide (show ¬ OfR x.X x.ul x.ui x.up T ∧ ¬ OfR x.X x.ul x.ui x.up F from ⟨fun q => by have := hP3.so.tr T q; rw [hP3.tT] at this; exact absurd this (tg_ne (by decide)), fun q => by have := hP3.so.tr F q; rw [hP3.tF] at this; exact absurd this (tg_ne (by decide))⟩)
            have HP3 := hide hP3
            have HS5 := hide hsub
            clear hP3 hd4 o4 hv4 kT kF hr4 hsub q4 hall4 b3
            simp only [Act.put, List.setIfInBounds_toArray, List.set_cons_succ, List.set_cons_zero]
            generalize hwv : writev x.d (m9 : Int) bk = wv at *
            have HWV := hide hwv
            clear hwv
            go_wp2_with fail
            refine rqb F T x.X m9 wv str bk rfl rfl rfl _ _ (show 119 ≤ 203 from by decide) rfl rfl rfl rfl (fun L W => (W.cell? ⟨F, 1, none⟩ = some (ptr x.X) ∧ W.cell? ⟨T, 3, none⟩ = some (S str)) ∧ (L 8 = true → L 7 = true) ∧ (L 8 = false → Below w4.heap.size w4 W) ∧ (L 8 = true → ∃ w5, Below w4.heap.size w4 w5 ∧ RAt x.X (x.r.write (m9 : Int) bk) x.ul x.ui x.up W ∧ Only (OfR x.X x.ul x.ui x.up) w5 W)) ?h0 ?hp ?l2 ?l5 ?c7 ?c8 ?_
            case h0 => exact ⟨⟨g1d, c3d⟩, fun h => (by cases h), fun _ => (Below.refl _ _).drew, fun h => (by cases h)⟩
            case hp =>
              intro i hi L W q
              have h6 : i ≠ 7 := by rintro rfl; simp at hi
              have h7 : i ≠ 8 := by rintro rfl; simp at hi
              simpa only [upd, Ne.symm h6, Ne.symm h7, if_false] using q
            case l2 => exact fun L W q => q.1.1
            case l5 => exact fun L W q => q.1.2
            case c7 =>
              intro L W q h6
              have h7 : L 8 = false := Bool.eq_false_iff.2 (fun h => by have := q.2.1 h; rw [h6] at this; cases this)
              refine (unhide HBk W).mono ?_
              rintro e w' ⟨rfl, b3⟩
              have hu : upd L 7 8 = false := by simp [upd, h7]
              refine ⟨rfl, ⟨(b3.cell (p := ⟨F, 1, none⟩) (blk_lt q.1.1)).trans q.1.1, (b3.cell (p := ⟨T, 3, none⟩) (blk_lt q.1.2)).trans q.1.2⟩, fun h => (by rw [hu] at h; cases h), fun _ => (q.2.2.1 h7).trans (b3.mono (q.2.2.1 h7).size), fun h => (by rw [hu] at h; cases h)⟩
            case c8 =>
              intro L W q h7 _ _ h6
              have b := q.2.2.1 h7
              refine (unhide HW2 W b bk).mono ?_
              rintro e w' ⟨rfl, hr6, o6⟩
              have k1 := o6.block F (blk_lt q.1.1) (unhide HnR).2
              have k2 := o6.block T (blk_lt q.1.2) (unhide HnR).1
              exact ⟨by rw [unhide HEq], ⟨(World.cell?_of_block k1).trans q.1.1, (World.cell?_of_block k2).trans q.1.2⟩, fun _ => (by simp [upd, h6]), fun h => (by simp [upd] at h), fun _ => ⟨W, b, hr6, o6⟩⟩
            intro L6 w6 hall6 q6
            obtain ⟨w5, b5, hr6, o6⟩ := q6.2.2.2 (hall6 8 (by decide))
            have hP3 := unhide HP3
            obtain ⟨hd4, o4, hv4⟩ := unhide HW4
            have hsub := unhide HS5
            have hd6 := hP3.so.keepD (hd4.below b5) hv4 o6
            obtain ⟨s6, hw6, hh6⟩ := hP3.wi.done hP3.hx hP3.so ((((o4.mono (fun k _ q => Or.inl (hsub k q))).trans (Only.of_below (P := fun _ => False) b5) (fun _ _ q => q.elim)).trans o6 (fun k _ q => Or.inr q))) hd6 hr6 (hP3.so.ok.write (m9 : Int) bk) (hP3.so.rel.write (m9 : Int) bk) (by have := acts_write x.d (m9 : Int) bk; exact ⟨by omega, by push_cast; omega⟩) hv4
            have HE := hide (And.intro hw6 hh6)
            clear hP3 hd4 o4 hv4 hr6 o6 hsub b5 hd6 hw6 hh6 q6 hall6
            simp only [Act.put, List.setIfInBounds_toArray, List.set_cons_succ, List.set_cons_zero]
            go_wp2
            go_ret
            exact ⟨by first | rfl | simp, s6, (unhide HE).1, by rw [(unhide HE).2]; exact hhn5⟩
          · have e3 : (kind == 3) = false := by simpa using k3
            by_cases k4 : kind = 4
            · subst k4
              exact absurd (unhide HNK) (by decide)
            · have e4 : (kind == 4) = false := by simpa using k4
              by_cases k5 : kind = 5
              · subst k5
                exact absurd (unhide HNK) (by decide)
              · have e5 : (kind == 5) = false := by simpa using k5
                by_cases k6 : kind = 6
                · subst k6
                  exact absurd (unhide HNK) (by decide)
                · have e6 : (kind == 6) = false := by simpa using k6
                  by_cases k7 : kind = 7
                  · subst k7
                    exact absurd (unhide HNK) (by decide)
                  · have e7 : (kind == 7) = false := by simpa using k7
                    by_cases k8 : kind = 8
                    · subst k8
                      exact absurd (unhide HNK) (by decide)
                    · have e8 : (kind == 8) = false := by simpa using k8
                      by_cases k9 : kind = 9
                      · subst k9
                        exact absurd (unhide HNK) (by decide)
                      · have e9 : (kind == 9) = false := by simpa using k9
                        by_cases k10 : kind = 10
                        · subst k10
                          exact absurd (unhide HNK) (by decide)
                        · have e10 : (kind == 10) = false := by simpa using k10
                          exact absurd (unhide HNK) k3
end Go.Proofs.Ytpelmacblglhoaa
