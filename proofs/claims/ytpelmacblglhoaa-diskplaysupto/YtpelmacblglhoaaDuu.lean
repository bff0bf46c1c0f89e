import Derived.Test.YtpelmacblglhoaaZzbk
import Derived.Test.YtpelmacblglhoaaZzas
namespace Go.Proofs.Ytpelmacblglhoaa
open Go.RowKit
set_option maxHeartbeats 16000000
set_option maxRecDepth 8000
/-- As many lists as before. -/
structure Sm (s s' : Ws) : Prop where
  a : s'.f1 + s'.N1 = s.f1 + s.N1
  b : s'.f2 + s'.N2 = s.f2 + s.N2
section
variable {w0 w w' : World} {K Z : Nat} {s : Ws} {V : Value} {L : List Bs}
/-- A new disk and the document's, of nobody yet. -/
structure ND (x : Sd) (tag : Nat → Tg) (w : World) : Prop where
  dat : DAt x.D x.d x.vw x.vl w
  rat : RAt x.X x.r x.ul x.ui x.up w
  ok : Ok x.d
  rel : Rel x.d x.r
  ac : x.d.acts = 0
  td : ∀ k, Of x.D x.vw x.vl k → tag k = (7, 1)
  tr : ∀ k, OfR x.X x.ul x.ui x.up k → tag k = (7, 2)
def NDo (r : Int) (vd vx : Value) (tag : Nat → Tg) (w : World) : Prop := (r ≠ 0 ∧ vd = .pointer none ∧ vx = .pointer none) ∨ (r = 0 ∧ ∃ x, vd = ptr x.D ∧ vx = ptr x.X ∧ ND x tag w)
theorem ND.only {x : Sd} {tag : Nat → Tg} {Q : Nat → Prop} (h : ND x tag w) (ho : Only Q w w') (hq : ∀ k, Q k → k < w.heap.size → tag k ≠ (7, 1) ∧ tag k ≠ (7, 2)) : ND x tag w' :=
  ⟨h.dat.only ho (fun k hk q => (hq k q (h.dat.old k hk)).1 (h.td k hk)), h.rat.only ho (fun k hk q => (hq k q (h.rat.old k hk)).2 (h.tr k hk)), h.ok, h.rel, h.ac, h.td, h.tr⟩
theorem NDo.only {r : Int} {vd vx : Value} {tag : Nat → Tg} {Q : Nat → Prop} (h : NDo r vd vx tag w) (ho : Only Q w w') (hq : ∀ k, Q k → k < w.heap.size → tag k ≠ (7, 1) ∧ tag k ≠ (7, 2)) : NDo r vd vx tag w' := by
  rcases h with h | ⟨h, x, h1, h2, h3⟩
  · exact .inl h
  · exact .inr ⟨h, x, h1, h2, h3.only ho hq⟩
theorem NDo.below {r : Int} {vd vx : Value} {tag : Nat → Tg} (h : NDo r vd vx tag w) (hb : Below w.heap.size w w') : NDo r vd vx tag w' := h.only (Q := fun _ => False) (Only.of_below hb) (fun _ q => q.elim)
/-- Two loads that answer the same make a new disk, or none. -/
theorem LO.two {w1 w2 : World} {vx : Value} {D : Nat} {Vl : Value} (h : LO w0 K Z V L s w) (h0 : loadv L = 0) (hd : DAt D (Ds.new L) (.slice none 0 0) Vl w1) (hn : ∀ k, Of D (.slice none 0 0) Vl k → w.heap.size ≤ k) (b1 : Below w.heap.size w w1)
    (hr : RN w1 L (loadv L) vx w2) (b2 : Below w1.heap.size w1 w2) : ∃ tag', LO w0 K Z V L { s with tag := tag' } w2 ∧ NDo (loadv L) (ptr D) vx tag' w2 := by
  obtain ⟨X, ul, ui, up, e, hx, hxn⟩ := hr.1 h0
  have hA := ((h.ext (7, 1)).below b1).ext (7, 2)
  refine ⟨_, hA.below b2, .inr ⟨h0, ⟨D, X, .slice none 0 0, Vl, ul, ui, up, Ds.new L, Rd.new L⟩, rfl, e, ⟨hd.below b2, hx, ?_, Rel.new L, rfl, fun k hk => ?_, fun k hk => ?_⟩⟩⟩
  · have hm : mayv L.length = true := by
      cases q : mayv L.length with
      | true => rfl
      | false => rw [loadv_may q] at h0; cases h0
    refine Ok.new hm ?_
    cases q : allR L with
    | true => rfl
    | false => rw [loadv_bad hm q] at h0; cases h0
  · show Go.Proofs.Ytpelmacblglhoaa.ext (Go.Proofs.Ytpelmacblglhoaa.ext s.tag w.heap.size (7, 1)) w1.heap.size (7, 2) k = _
    rw [ext_old (hd.old k hk), ext_new (hn k hk)]
  · show Go.Proofs.Ytpelmacblglhoaa.ext (Go.Proofs.Ytpelmacblglhoaa.ext s.tag w.heap.size (7, 1)) w1.heap.size (7, 2) k = _
    rw [ext_new (hxn k hk)]
theorem loads_wi (h : LO w0 K Z V L s w) (hL : L.length ≤ 4096) (hns : s.sd.length + 1 ≤ K) (hK : K ≤ 10000000) (hhn : s.hn ≤ 1000000) :
    Calls Try.prog 39 #[ptr Z, V] w fun e w' => e = .returned (.bool true) ∧ ∃ s', WI w0 K Z none s' w' ∧ s'.sd.length ≤ s.sd.length + 1 ∧ Sm s s' ∧ s'.hn ≤ 1000000 := by
  obtain ⟨pv, cv, rfl⟩ := owns_form h.lr
  obtain ⟨ph, ch, hvh⟩ := owns_form h.wi.rh
  have z7 : w.cell? ⟨Z, 7, none⟩ = some (.slice ph s.hn ch) := by rw [h.wi.cell 7]; show some s.vh = _; rw [hvh]
  have hZ := h.wi.lt
  have H := hide h
  have HV := hide hvh
  clear h hvh
  generalize hN : s.hn = hn at *
  have HN := hide hN
  clear hN
  go_enter Try.func39, Try.ntmps39
  go_upto_if 22 with fail
  go_cut [] from 14 to 29 (fun wx => ∃ (s' : Ws) (g c : Nat), s'.vh = .slice (some ⟨g, 0, none⟩) s'.hn c ∧ L.length + 8 ≤ s'.hn ∧ LO w0 K Z (.slice pv L.length cv) L s' wx ∧ s'.sd = s.sd ∧ Sm s s' ∧ s'.hn ≤ 1000000)
  case first =>
    by_cases hlt : hn < L.length + 8
    · have hlt' : (hn : Int) < (L.length : Int) + 8 := by omega
      have HL0 := hide ((unhide H).ext (7, 3))
      go_wp2_with (first
        | (refine make_own 28 9 _ 1 16 Try.underlying28 info9 rfl (.tmp 26) (.tmp 26) rfl _ _ (L.length + 30) (by rfl) (by rfl) (by push_cast; rfl) (by push_cast; rfl) (by omega) (by omega) ?_
           intro w1 ho1 b1 l1
           have hA := (unhide HL0).below b1
           have z7b : w1.cell? ⟨Z, 7, none⟩ = some (.slice ph hn ch) := (b1.cell (p := ⟨Z, 7, none⟩) hZ).trans z7
           have fz := frz hA.wi.blk 7
           have hZ1 := hA.wi.lt
           have HA := hide (And.intro hA ho1)
           clear b1 hA ho1)
        | fail)
      all_goals go_meet
      case rel =>
        obtain ⟨hA, ho1⟩ := unhide HA
        obtain ⟨tg, t1, t2, hw⟩ := hA.wi.newHand ho1 (by show (ext s.tag w.heap.size (7, 3) w.heap.size).1 = 7; rw [ext_new (Nat.le_refl _)])
        refine ⟨_, w.heap.size, L.length + 30, rfl, by simp only; omega, ⟨hw, ?_, fun k hk => ?_⟩, rfl, ⟨rfl, rfl⟩, by simp only; omega⟩
        · exact owns_only hA.lr (Only.setCell w1 ⟨Z, 7, none⟩ _) (fun k hk q => by have a := hA.lt k hk; rw [show k = Z from q, hA.wi.tz] at a; exact absurd a (by decide))
        · have hk2 := owns_blk (unhide H).lr k hk
          show tg k = _
          rw [t2 k (by omega)]
          exact hA.lt k hk
    · have hlt' : ¬ (hn : Int) < (L.length : Int) + 8 := by omega
      go_wp2
      all_goals go_meet
      case rel =>
        obtain ⟨g, c, cur, e1, -⟩ := owns_at (unhide H).wi.rh (by rw [unhide HN]; omega)
        exact ⟨s, g, c, e1, by rw [unhide HN]; omega, unhide H, rfl, ⟨rfl, rfl⟩, by rw [unhide HN]; exact hhn⟩
  case rest =>
    obtain ⟨s1, g, c, hv, h8, hA, hsd, hsm, hh⟩ := hcut
    have HSD := hide (And.intro hsd hsm)
    clear hsd hsm z7 H HV HN
    have z7 : wc.cell? ⟨Z, 7, none⟩ = some (.slice (some ⟨g, 0, none⟩) s1.hn c) := by rw [hA.wi.cell 7]; show some s1.vh = _; rw [hv]
    have hZx := hA.wi.lt
    have hcap : s1.hn ≤ c ∧ s1.hs.length = s1.hn := by
      obtain ⟨g', c', cur, e1, -, e3, -⟩ := owns_at hA.wi.rh (by omega)
      rw [hv] at e1
      cases e1
      exact ⟨e3, by have := hA.wi.rh.1; omega⟩
    have h8c : (L.length : Int) + 8 ≤ (c : Int) := by omega
    obtain ⟨w2, hr2, hA2⟩ := hA.copy hv h8 3
    have HA2 := hide hA2
    have HV := hide hv
    have HC := hide hcap
    clear hA hA2 hv hcap
    go_wp2_with (first
      | (refine wp_copy_run rfl (.tmp 38) (.tmp 39) rfl _ _ (by rfl) (by rfl) _ _ hr2 ?_)
      | fail)
    clear hr2 z7
    go_loopw [6] (fun x wr => ∃ i : Nat, L.length ≤ i ∧ i ≤ L.length + 8 ∧ x = .int .i64 i ∧ LO w0 K Z (.slice pv L.length cv) L { s1 with hs := hd L spare i s1.hs } wr) (fun x _ => L.length + 8 - (Go.RowKit.intOf x).toNat)
    case atStart => exact ⟨L.length, by omega, by omega, rfl, unhide HA2⟩
    case round =>
      clear HA2
      obtain ⟨i, hi1, hi2, rfl, hB⟩ := hrel
      have hv2 : ({ s1 with hs := hd L spare i s1.hs } : Ws).vh = .slice (some ⟨g, 0, none⟩) s1.hn c := unhide HV
      have hrow := hB.wi.rh
      rw [hv2] at hrow
      obtain ⟨g', c', cur, e1, e2, -⟩ := owns_at hrow (show 0 < s1.hn by omega)
      cases e1
      have hgl := lt_of_row e2
      by_cases hlt : i < L.length + 8
      · have hlt' : (i : Int) < (L.length : Int) + 8 := by omega
        obtain ⟨u0, hu0⟩ : ∃ u, (hd L spare i s1.hs)[i]? = some u := ⟨_, List.getElem?_eq_getElem (by have := hrow.1; simp only at this; omega)⟩
        have hu1 := owns_cell hrow i u0 hu0
        have hfz := frz e2 i
        have o2 := owns_set hrow i (S spare)
        simp only at o2
        rw [hd_next L spare i s1.hs hi1 (by have := (unhide HC).2; omega)] at o2
        have HN := hide (hB.hand (hs' := hd L spare (i + 1) s1.hs) ((Only.setCell wr ⟨g, i, none⟩ (S spare)).mono (fun k _ q => by rw [hv2, show k = g from q]; rfl)) (by rw [hv2]; exact o2))
        clear hB hrow e2 o2 hv2 hu0
        go_wp2
        refine ⟨⟨i + 1, by omega, by omega, by go_num, unhide HN⟩, ?_⟩
        simp [Go.RowKit.intOf]; omega
      · have hlt' : ¬ (i : Int) < (L.length : Int) + 8 := by omega
        have hie : i = L.length + 8 := by omega
        have hs1 : Sts wr (some ⟨g, 0, none⟩) L.length L := ⟨rfl, fun _ => ⟨g, 0, rfl, fun j hj => by rw [Nat.zero_add]; exact owns_cell hrow j _ (hd_low L spare i j s1.hs hj)⟩⟩
        have hsp : ∀ j, L.length ≤ j → j < L.length + 8 → wr.cell? ⟨g, j, none⟩ = some (S spare) := fun j h1 h2 => owns_cell hrow j _ (hd_mid L spare i j s1.hs h1 (by omega))
        obtain ⟨p9, c9, e9, hs2, -⟩ := Sts.of hB.lr
        cases e9
        have HS := hide (And.intro hs1 (And.intro hsp hs2))
        have H1 := hide (load_any (some ⟨g, 0, none⟩) L.length c L wr hs1 (by omega))
        have H2 := hide (fun (W : World) (b : Below wr.heap.size wr W) => rLoad2_any pv L.length cv L W (hs2.below b) (by omega))
        have H3 := hide (fun (W : World) (b : Below wr.heap.size wr W) => same_any (some ⟨g, 0, none⟩) pv L.length c cv L W (hs1.below b) (hs2.below b) (by omega))
        have HB := hide hB
        have hLc : (L.length : Int) ≤ (c : Int) := by omega
        clear hB hrow e2 hv2 hs1 hsp hs2
        go_wp2_with fail
        refine (unhide H1).mono ?_
        intro e3 w3 hq3
        obtain ⟨vd, rfl, hq3, b3⟩ : ∃ vd, e3 = .returned (.tuple #[vd, I (loadv L)]) ∧ ((loadv L ≠ 0 ∧ vd = .pointer none) ∨ (loadv L = 0 ∧ ∃ D Vl, vd = ptr D ∧ DAt D (Ds.new L) (.slice none 0 0) Vl w3 ∧ ∀ k, Of D (.slice none 0 0) Vl k → wr.heap.size ≤ k)) ∧ Below wr.heap.size wr w3 := by
          rcases hq3 with ⟨a, b, c⟩ | ⟨a, D, Vl, b, c, d, e⟩
          · exact ⟨_, b, .inl ⟨a, rfl⟩, by rw [c]; exact Below.refl _ _⟩
          · exact ⟨_, by rw [a]; exact b, .inr ⟨a, D, Vl, rfl, c, d⟩, e⟩
        have HQ3 := hide hq3
        have HB3 := hide b3
        have HR2 := hide (unhide H2 w3 b3)
        clear hq3 b3
        go_wp2_with fail
        refine (unhide HR2).mono ?_
        rintro e4 w4 ⟨⟨vx, rfl, hrn⟩, b4⟩
        have hb4 : Below wr.heap.size wr w4 := (unhide HB3).trans (b4.mono (unhide HB3).size)
        obtain ⟨tg, hC, hN⟩ : ∃ tg, LO w0 K Z (.slice pv L.length cv) L { s1 with tag := tg, hs := hd L spare i s1.hs } w4 ∧ NDo (loadv L) vd vx tg w4 := by
          rcases unhide HQ3 with ⟨a, b⟩ | ⟨a, D, Vl, b, c, d⟩
          · exact ⟨s1.tag, (unhide HB).below hb4, .inl ⟨a, b, hrn.2 a⟩⟩
          · subst b
            exact (unhide HB).two a c d (unhide HB3) hrn b4
        have H3w := hide (unhide H3 w4 hb4)
        have HW4 := hide (And.intro hC hN)
        have HB4 := hide hb4
        generalize loadv L = lv at *
        clear hrn b4 hb4 hC hN HR2 H1 H2 H3 HB HQ3 HB3
        go_wp2_with fail
        refine (unhide H3w).mono ?_
        rintro e5 w5 ⟨rfl, b5⟩
        have HW5 := hide (And.intro ((unhide HW4).1.below b5) ((unhide HW4).2.below b5))
        have HB5 := hide ((unhide HB4).trans (b5.mono (unhide HB4).size))
        clear b5 HW4 HB4 H3w
        go_wp2
        go_loopw [11, 12] (fun y x wq => ∃ j : Nat, L.length ≤ j ∧ j ≤ L.length + 8 ∧ x = .int .i64 j ∧ y = .bool true ∧ wq = w5) (fun _ x _ => L.length + 8 - (Go.RowKit.intOf x).toNat)
        case atStart => exact ⟨L.length, by omega, by omega, rfl, rfl, rfl⟩
        case round =>
          obtain ⟨j, hj1, hj2, rfl, rfl, rfl⟩ := hrel
          by_cases hjl : j < L.length + 8
          · have hjl' : (j : Int) < (L.length : Int) + 8 := by omega
            have hcj := ((unhide HB5).cell (p := ⟨g, j, none⟩) hgl).trans ((unhide HS).2.1 j hj1 hjl)
            have hgl5 := blk_lt hcj
            go_wp2
            refine ⟨⟨j + 1, by omega, by omega, by go_num, by first | rfl | decide, by first | trivial | rfl⟩, ?_⟩
            simp [Go.RowKit.intOf]; omega
          · have hjl' : ¬ (j : Int) < (L.length : Int) + 8 := by omega
            have HL5 := hide (show (hd L spare i s1.hs).length = s1.hn by have := (unhide HW5).1.wi.rh.1; simp only at this; omega)
            go_wp2
            clear hjl hjl' hj1 hj2 HS HB5
            go_loopw [13] (fun x wq => ∃ (j : Nat) (hs' : List Value), j ≤ L.length + 8 ∧ x = .int .i64 j ∧ hs'.length = s1.hn ∧ LO w0 K Z (.slice pv L.length cv) L { s1 with tag := tg, hs := hs' } wq ∧ NDo lv vd vx tg wq) (fun x _ => L.length + 8 - (Go.RowKit.intOf x).toNat)
            case atStart => exact ⟨0, _, by omega, rfl, unhide HL5, (unhide HW5).1, (unhide HW5).2⟩
            case round =>
              clear HW5 HL5
              obtain ⟨j, hs', hj, rfl, hlen, hB, hN⟩ := hrel
              have hv2 : ({ s1 with tag := tg, hs := hs' } : Ws).vh = .slice (some ⟨g, 0, none⟩) s1.hn c := unhide HV
              have hth : ∀ k, s1.vh.ownBlock = some k → tg k = (0, 8) := hB.wi.th
              have hrow := hB.wi.rh
              rw [hv2] at hrow
              simp only at hrow
              obtain ⟨g', c', cur, e1, e2, -⟩ := owns_at hrow (show 0 < s1.hn by omega)
              cases e1
              have hgl := lt_of_row e2
              by_cases hlt : j < L.length + 8
              · have hlt' : (j : Int) < (L.length : Int) + 8 := by omega
                obtain ⟨u0, hu0⟩ : ∃ u, hs'[j]? = some u := ⟨_, List.getElem?_eq_getElem (by omega)⟩
                have hu1 := owns_cell hrow j u0 hu0
                have hfz := frz e2 j
                have o2 := owns_set hrow j (S overT)
                have oc : Only (fun k => s1.vh.ownBlock = some k) wr (wr.setCell ⟨g, j, none⟩ (S overT)) := (Only.setCell wr ⟨g, j, none⟩ (S overT)).mono (fun k _ q => by rw [unhide HV, show k = g from q]; rfl)
                have HN := hide (And.intro (hB.hand (hs' := hs'.set j (S overT)) oc (by rw [hv2]; exact o2)) (hN.only oc (fun k q _ => by rw [hth k q]; exact ⟨by decide, by decide⟩)))
                clear hB hN hrow e2 o2 oc hv2 hu0 hth
                go_wp2
                refine ⟨⟨j + 1, hs'.set j (S overT), by omega, by go_num, by rw [List.length_set]; exact hlen, (unhide HN).1, (unhide HN).2⟩, ?_⟩
                simp [Go.RowKit.intOf]; omega
              · have hlt' : ¬ (j : Int) < (L.length : Int) + 8 := by omega
                have hBw := hB.wi
                rcases hN with ⟨l0, rfl, rfl⟩ | ⟨l0, x, rfl, rfl, hnd⟩
                · have HF := hide hBw
                  clear hB hBw hrow e2 hv2 hth
                  go_wp2
                  go_ret
                  refine ⟨by first | rfl | simp, _, unhide HF, ?_, ?_, ?_⟩
                  · show s1.sd.length ≤ _
                    rw [(unhide HSD).1]; omega
                  · exact ⟨(unhide HSD).2.a, (unhide HSD).2.b⟩
                  · exact hh
                · have hZq := hBw.lt
                  have z0 : wr.cell? ⟨Z, 0, none⟩ = some s1.vl := hBw.cell 0
                  obtain ⟨pl, cl, hpl⟩ := owns_form hBw.rl
                  simp only at hpl
                  have hrl := hBw.rl
                  simp only at hrl
                  rw [hpl] at hrl z0
                  have hsdl : s1.sd.length ≤ 10000000 := by rw [(unhide HSD).1]; omega
                  have HF := hide (And.intro hBw hnd)
                  have HRL := hide hrl
                  have HPL := hide hpl
                  clear hB hBw hrow e2 hv2 hth hnd hrl hpl
                  go_wp2_with (first
                    | (at_builtin; refine push_own 25 40 _ 2 16 Try.underlying25 info40 rfl (by decide) rfl (.tmp 106) (.tmp 110) rfl (.slice pl s1.sd.length cl) s1.sd.length (cellsS s1.sd) (by rfl) wr (unhide HRL) [ptr x.D, ptr x.X] rfl (by intro u hu; simp at hu; rcases hu with rfl | rfl <;> rfl) (by rfl) (by omega) (by omega) ?_
                       intro p5 c5 w5 r1 r2 r3
                       have hZ5 := (r2.block Z hZq (fun q => by
                         have a := (unhide HF).1.tl Z (by simp only; rw [unhide HPL]; exact q)
                         rw [(unhide HF).1.tz] at a
                         exact absurd a (by decide))).trans (unhide HF).1.blk
                       have z5 : w5.cell? ⟨Z, 0, none⟩ = some (.slice pl s1.sd.length cl) := by rw [cell_of_row w5 Z 0 _ 30 (0, 0) hZ5]; show some s1.vl = _; rw [unhide HPL]
                       have fz5 := frz hZ5 0
                       have hZl5 := lt_of_row hZ5
                       have HR := hide (And.intro r1 (And.intro r2 (And.intro r3 hZ5)))
                       clear r1 r2 r3 hZ5)
                    | fail)
                  go_ret
                  obtain ⟨r1, r2, r3, hZ5⟩ := unhide HR
                  obtain ⟨hwi, hnd⟩ := unhide HF
                  have hq : ∀ k, k = Z ∨ (Value.slice pl s1.sd.length cl).ownBlock = some k → k = Z ∨ s1.vl.ownBlock = some k := fun k q => by rw [unhide HPL]; exact q
                  obtain ⟨tg2, hfin⟩ := hwi.addSide (x := x) (vl' := .slice p5 (s1.sd.length + 1) c5) (w' := w5.setCell ⟨Z, 0, none⟩ (.slice p5 (s1.sd.length + 1) c5)) (by simp only; rw [(unhide HSD).1]; omega) hnd.dat hnd.rat hnd.ok hnd.rel (by rw [hnd.ac]; omega) hnd.td hnd.tr
                    (((r2.mono (fun k _ q => .inr q)).put ⟨Z, 0, none⟩ _ (.inl (.inl rfl))).mono (fun k _ q => hq k q))
                    (heap_setCell_same w5 Z 0 _ 30 _ hZ5)
                    (owns_only r1 (Only.setCell w5 ⟨Z, 0, none⟩ _) (fun k hk q => by
                      have q' : k = Z := q
                      rcases r3 k hk with a | a
                      · have b := hwi.tl k (by simp only; rw [unhide HPL]; exact a)
                        rw [q', hwi.tz] at b
                        exact absurd b (by decide)
                      · omega))
                    (fun k hk => by rw [unhide HPL]; exact r3 k hk)
                  refine ⟨by first | rfl | simp, _, hfin, ?_, ?_, ?_⟩
                  · show (s1.sd ++ [x]).length ≤ _
                    rw [List.length_append, (unhide HSD).1]; simp
                  · exact ⟨(unhide HSD).2.a, (unhide HSD).2.b⟩
                  · exact hh
end
end Go.Proofs.Ytpelmacblglhoaa
