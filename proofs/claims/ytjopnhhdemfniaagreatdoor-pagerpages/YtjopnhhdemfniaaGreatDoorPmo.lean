import Derived.Test.YtjopnhhdemfniaaGreatDoorRgpw
import Derived.Test.YtjopnhhdemfniaaGreatDoorPjm
import Derived.Test.YtjopnhhdemfniaaGreatDoorPmk
namespace Go.Proofs.YtjopnhhdemfniaaGreatDoor
open Go.RowKit
set_option maxHeartbeats 8000000
set_option maxRecDepth 8000
/-- A struct in its cell comes out. -/
theorem out1c {T : TypeId} {n : Nat} (hA : ∀ w, (isAgg T).run Tryz.prog w = .ok true w) (hs : ∀ w, (sizeOf T).run Tryz.prog w = .ok n w) {fn : Func} {p : Tmp} {W : World} {a : Act} {Z : Nat} {cs : Array Value} {t : TypeId} {Post : Ending → World → Prop} (hf : fn.results = #[.cell p T]) (hd : a.defers = []) (ht : a.tmps.getD p undef = .pointer (some ⟨Z, 0, none⟩)) (h : W.heap[Z]? = some (.cells cs t (0, 0))) (hn : cs.size = n) (hp : Post (.returned (.agg cs)) W) : bodyPost Tryz.prog fn Post .ret a W := by
  refine bodyPost_ret ?_ hd hp
  have ht' : a.tmps[p]?.getD undef = .pointer (some ⟨Z, 0, none⟩) := by simpa using ht
  simp only [results, hf]
  simp [ht', asAddr, lv_row hA hs h hn]
def ftl (l : List Int) (n : Nat) : List Int := (l.take n).map fun z => 2 + ((pkv z 4094 : Nat) : Int)
theorem ftl_len (l : List Int) (n : Nat) : (ftl l n).length = min n l.length := by simp [ftl]
theorem ftl_next (l : List Int) (j : Nat) (h : j < l.length) : ftl l (j + 1) = ftl l j ++ [2 + ((pkv (l.getD j 0) 4094 : Nat) : Int)] := by
  unfold ftl
  rw [List.take_add_one, List.map_append, List.getD_eq_getElem?_getD, List.getElem?_eq_getElem h]
  rfl
theorem ftl_end (l : List Int) (j : Nat) (h : j = min 122 l.length) : ftl l j = ftl l 122 := by
  subst h
  unfold ftl
  congr 1
  apply List.ext_getElem?
  intro i
  rw [List.getElem?_take, List.getElem?_take]
  by_cases h1 : i < l.length
  · by_cases h2 : i < 122
    · rw [if_pos (by omega), if_pos h2]
    · rw [if_neg (by omega), if_neg h2]
  · rw [List.getElem?_eq_none (by omega)]
    split <;> split <;> rfl
def fit (p : Pg) : Pg := ⟨1 + ((pkv p.kind 255 : Nat) : Int), 2 + ((pkv p.number 4094 : Nat) : Int), 1 + ((pkv p.birth 4611686018427387904 : Nat) : Int), ftl p.links 122, p.body.take (488 - 4 * (ftl p.links 122).length)⟩
theorem fit_may (p : Pg) : (fit p).may = true := by
  have h1 := pkv_lt p.kind 255 (by omega)
  have h2 := pkv_lt p.number 4094 (by omega)
  have h3 := pkv_lt p.birth 4611686018427387904 (by omega)
  have h4 := ftl_len p.links 122
  have h5 : (p.body.take (488 - 4 * (ftl p.links 122).length)).length ≤ 488 - 4 * (ftl p.links 122).length := by rw [List.length_take]; omega
  have h6 : ∀ z ∈ ftl p.links 122, 2 ≤ z ∧ z < 4096 := fun z hz => by
    unfold ftl at hz
    obtain ⟨y, _, rfl⟩ := List.mem_map.1 hz
    have := pkv_lt y 4094 (by omega)
    exact ⟨by omega, by omega⟩
  unfold fit
  generalize ftl p.links 122 = L at *
  generalize p.body.take (488 - 4 * L.length) = Y at *
  generalize pkv p.kind 255 = k1 at *
  generalize pkv p.number 4094 = m1 at *
  generalize pkv p.birth 4611686018427387904 = b1 at *
  simp only [Pg.may, Pg.fresh, isPg, isGn, Bool.and_eq_true, decide_eq_true_eq, List.all_eq_true]
  refine ⟨⟨by omega, by omega⟩, ⟨⟨⟨by omega, by omega⟩, by omega⟩, by omega, by omega⟩, h6⟩
theorem fitted_any (p : Pg) (a : Option Addr) (cap : Nat) (w : World) (hl : Ins w a p.links.length p.links) (hn : p.links.length ≤ 1000000000000) (hx : p.body.length ≤ 1000000000000) (hk : -9223372036854775808 ≤ p.kind ∧ p.kind ≤ 9223372036854775807) (hm : -9223372036854775808 ≤ p.number ∧ p.number ≤ 9223372036854775807) (hb : -9223372036854775808 ≤ p.birth ∧ p.birth ≤ 9223372036854775807) (hz : ∀ z ∈ p.links, -9223372036854775808 ≤ z ∧ z ≤ 9223372036854775807) :
    Calls Tryz.prog 13 #[pga p a cap] w fun e w' => ∃ q c, e = .returned (pga (fit p) q c) ∧ w'.ownsRow 0 3 1 (.slice q (fit p).links.length c) (fit p).links.length ((fit p).links.map fun z => I z) ∧ Below w.heap.size w w' := by
  have hg := heap_alloc_new w (.cells (pgc p a cap) 24)
  have b1 := (Below.refl w.heap.size w).alloc (Nat.le_refl _) (.cells (pgc p a cap) 24)
  have s1 : (w.alloc (.cells (pgc p a cap) 24)).heap.size = w.heap.size + 1 := by simp
  have hg2 := heap_alloc_new (w.alloc (.cells (pgc p a cap) 24)) (.cells #[I 0, I 0, I 0, .slice none 0 0, .string ⟨#[]⟩] 24)
  have hgo := heap_alloc_old (w.alloc (.cells (pgc p a cap) 24)) (.cells #[I 0, I 0, I 0, .slice none 0 0, .string ⟨#[]⟩] 24) (lt_of_row hg)
  have hgY := hgo.trans hg
  have b2 := b1.alloc (Nat.le_of_lt (by omega)) (.cells #[I 0, I 0, I 0, .slice none 0 0, .string ⟨#[]⟩] 24)
  have s2 : ((w.alloc (.cells (pgc p a cap) 24)).alloc (.cells #[I 0, I 0, I 0, .slice none 0 0, .string ⟨#[]⟩] 24)).heap.size = w.heap.size + 2 := by simp
  rw [s1] at hg2
  have HY := hide hgY
  have HG2 := hide hg2
  have HB2 := hide b2
  have HS2 := hide s2
  have HIN := hide (hl.below b2)
  have P1 := hide (fun W => pick_any p.kind 255 W (by omega) (by omega) hk.1 hk.2)
  have P2 := hide (fun W => pick_any p.number 4094 W (by omega) (by omega) hm.1 hm.2)
  have P3 := hide (fun W => pick_any p.birth 4611686018427387904 W (by omega) (by omega) hb.1 hb.2)
  have P4 := hide (fun W j (h : j < p.links.length) => pick_any (p.links.getD j 0) 4094 W (by omega) (by omega) (hz _ (getD_in p.links 0 j h)).1 (hz _ (getD_in p.links 0 j h)).2)
  have l1 := pkv_lt p.kind 255 (by omega)
  have l2 := pkv_lt p.number 4094 (by omega)
  have l3 := pkv_lt p.birth 4611686018427387904 (by omega)
  have HF := hide (show fit p = ⟨1 + ((pkv p.kind 255 : Nat) : Int), 2 + ((pkv p.number 4094 : Nat) : Int), 1 + ((pkv p.birth 4611686018427387904 : Nat) : Int), ftl p.links 122, p.body.take (488 - 4 * (ftl p.links 122).length)⟩ from rfl)
  clear hg b1 s1 hg2 hgo hgY b2 s2 hl hk hm hb hz
  generalize fit p = F at *
  generalize pkv p.kind 255 = k1 at *
  generalize pkv p.number 4094 = m1 at *
  generalize pkv p.birth 4611686018427387904 = b1 at *
  obtain ⟨k, m, b, l, x⟩ := p
  unfold pga pgc at *
  simp only at *
  go_enter Tryz.func13, Tryz.ntmps13
  go_upto_region 1 with fail
  generalize hWA : (w.alloc (.cells #[I k, I m, I b, .slice a l.length cap, S x] 24)).alloc (.cells #[I 0, I 0, I 0, .slice none 0 0, .string ⟨#[]⟩] 24) = WA at *
  clear hWA
  refine rft1 w.heap.size k m b k1 m1 b1 (by kernel_rfl) (by kernel_rfl) (by kernel_rfl) _ _ (by show 18 ≤ Array.size _; simp) rfl (Mk1 WA 24 13 14 #[I 0, I 0, I 0, .slice none 0 0, .string ⟨#[]⟩] #[I (1 + (k1 : Int)), I (2 + (m1 : Int)), I (1 + (b1 : Int)), .slice none 0 0, .string ⟨#[]⟩]) ⟨0, Mk1.start _ _ _ _ _ _ _⟩ ?_ ?_ ?_ ?_ ?_ ?_ ?_ ?_ ?_ ?_ ?_ ?_ ?_ ?_
  · intro i hi c L W hW
    simp only [List.mem_cons, List.not_mem_nil, or_false, not_or] at hi
    exact hW.pure hi.2.2.2.1 hi.2.2.2.2
  · exact fun c L W hW _ _ => s_ld Tryz.isAgg3 (cell_of_row _ _ 0 _ 24 (0, 0) ((hW.bel.block _ (lt_of_row (unhide HY))).trans (unhide HY)))
  · intro c L W hW _ _
    refine (unhide P1 W).mono ?_
    rintro e w' ⟨rfl, hw⟩
    rw [hw]
    exact ⟨c, fun _ _ => rfl, rfl, hW.pure (by decide) (by decide)⟩
  · exact fun W => s_add _ _ _ _ (by omega) (by omega)
  · exact fun c L W hW _ _ => s_ld Tryz.isAgg3 (cell_of_row _ _ 1 _ 24 (0, 0) ((hW.bel.block _ (lt_of_row (unhide HY))).trans (unhide HY)))
  · intro c L W hW _ _
    refine (unhide P2 W).mono ?_
    rintro e w' ⟨rfl, hw⟩
    rw [hw]
    exact ⟨c, fun _ _ => rfl, rfl, hW.pure (by decide) (by decide)⟩
  · exact fun W => s_add _ _ _ _ (by omega) (by omega)
  · exact fun c L W hW _ _ => s_ld Tryz.isAgg3 (cell_of_row _ _ 2 _ 24 (0, 0) ((hW.bel.block _ (lt_of_row (unhide HY))).trans (unhide HY)))
  · intro c L W hW _ _
    refine (unhide P3 W).mono ?_
    rintro e w' ⟨rfl, hw⟩
    rw [hw]
    exact ⟨c, fun _ _ => rfl, rfl, hW.pure (by decide) (by decide)⟩
  · exact fun W => s_add _ _ _ _ (by omega) (by omega)
  · intro W
    simp [go_sem, Tryz.zeroValue24]
  · intro c L W hW hL
    refine ⟨W.heap.size, _, fun j hj => ?_, s_al Tryz.zeroValue24, hW.alloc hL (by decide)⟩
    unfold vrft1
    split <;> first | rfl | (rw [hL] at hj; cases hj)
  · intro c L W hW hL h12 h13
    exact ⟨_, hW.runs h13 hL Tryz.sizeOf24 _ rfl rfl rfl (by simp [Value.oneCell']), hW.fill h13 (by decide)⟩
  intro X L W4 hall hW
  obtain ⟨hc0, hc1⟩ := hW.done (hall 13 (by omega)) (hall 14 (by omega))
  have HB4 := hide hW.bel
  have HX0 := hide hc0
  have HX := hide hc1
  clear hc0 hc1 hW hall
  simp only [Act.put, List.setIfInBounds_toArray, List.set_cons_succ, List.set_cons_zero]
  generalize hkk : (1 : Int) + (k1 : Int) = n1 at *
  generalize hmm : (2 : Int) + (m1 : Int) = n2 at *
  generalize hbb : (1 : Int) + (b1 : Int) = n3 at *
  clear hkk hmm hbb l1 l2 l3 P1 P2 P3
  go_wp2
  go_loopw [4] (fun i wr => ∃ (j : Nat) (v : Value), j ≤ l.length ∧ j ≤ 122 ∧ i = .int .i64 j ∧ wr.heap[X]? = some (.cells (prow n1 n2 n3 [] v) 24 (0, 0)) ∧ wr.ownsRow 0 3 1 v j ((ftl l j).map fun z => I z) ∧ (∀ k, v.ownBlock = some k → WA.heap.size ≤ k) ∧ Below WA.heap.size WA wr) (fun i _ => 122 - (Go.RowKit.intOf i).toNat)
  case atStart => exact ⟨0, .slice none 0 0, by omega, by omega, rfl, unhide HX, owns_nil _ _ _, (fun _ q => nomatch q), unhide HB4⟩
  case round =>
    obtain ⟨j, v, hj, hj2, rfl, hxr, hv, hv0, hb⟩ := hrel
    obtain ⟨q, cp, rfl⟩ := owns_form hv
    have hY := (hb.block _ (lt_of_row (unhide HY))).trans (unhide HY)
    have c3 := cell_of_row _ _ 3 _ 24 (0, 0) hY
    have hYl := lt_of_row hY
    by_cases hlt : j < l.length ∧ j < 122
    · have hlt1 : (j : Int) < (l.length : Int) := by omega
      have hlt2 : (j : Int) < 122 := by omega
      obtain ⟨g, oo, rfl, hgl, hgc⟩ := (unhide HIN).at hlt.1
      have hgc' : wr.cell? ⟨g, oo + j, none⟩ = some (I (l.getD j 0)) := (World.cell?_of_block (hb.block g hgl)).trans hgc
      have hlz := pkv_lt (l.getD j 0) 4094 (by omega)
      have HCJ := hide (fun W => unhide P4 W j hlt.1)
      have HNX := hide (ftl_next l j hlt.1)
      have HXR := hide hxr
      have HVR := hide hv
      have HV0 := hide hv0
      have HBR := hide hb
      have HYR := hide hY
      have HGC := hide hgc'
      have HGL := hide (Nat.lt_of_lt_of_le hgl hb.size)
      have HGN := hide hgl
      have hYW := lt_of_row (unhide HY)
      have HYW := hide hYW
      generalize l.getD j 0 = z at *
      generalize pkv z 4094 = z1 at *
      clear hxr hv hv0 hb hY hgc hgc' hgl hYW
      go_upto_region 5 with fail
      clear c3
      refine rft5 X w.heap.size j cp j g oo l.length cap q z z1 (by kernel_rfl) (by kernel_rfl) (by kernel_rfl) _ _ (by show 41 ≤ Array.size _; simp) rfl rfl rfl (Ap1 wr X (prow n1 n2 n3 []) (.slice q j cp) j ((ftl l j).map fun z => I z) (2 + (z1 : Int)) 1 9 10 12) ⟨_, Ap1.start _ _ _ _ _ _ _ _ _ _ _⟩ ?_ ?_ ?_ ?_ ?_ ?_ ?_ ?_ ?_ ?_ ?_
      · intro i hi c L W hW
        simp only [List.mem_cons, List.not_mem_nil, or_false, not_or] at hi
        exact hW.pure hi.2.1 hi.2.2.1 hi.2.2.2
      · intro c L W hW hL _
        exact s_ld Tryz.isAgg22 (cell_of_row _ _ 3 _ 24 (0, 0) ((hW.old hL (lt_of_row (unhide HXR))).trans (unhide HXR)))
      · intro c L W hW hL _
        exact s_ld Tryz.isAgg22 (cell_of_row _ _ 3 _ 24 (0, 0) ((hW.off hYl (fun e => by have := unhide HV0 _ e; have := unhide HYW; omega) (fun e => by have := unhide HX0; have := unhide HYW; omega)).trans (unhide HYR)))
      · exact fun W => s_ix22 g oo l.length cap j hlt.1
      · intro c L W hW hL _
        exact s_ld Tryz.isAgg3 ((World.cell?_of_block (hW.off (k := g) (unhide HGL) (fun e => by have := unhide HV0 _ e; have := unhide HGN; omega) (fun e => by have := unhide HX0; have := unhide HGN; omega))).trans (unhide HGC))
      · intro c L W hW _ _
        refine (unhide HCJ W).mono ?_
        rintro e w' ⟨rfl, hw⟩
        rw [hw]
        exact ⟨c, fun _ _ => rfl, rfl, hW.pure (by decide) (by decide) (by decide)⟩
      · exact fun W => s_add _ _ _ _ (by omega) (by omega)
      · intro c L W hW hL _
        obtain ⟨e1, e2⟩ := hW.build hL (by decide) (by decide)
        refine ⟨⟨wr.heap.size, c.v⟩, _, fun i hi => ?_, ?_, e2⟩
        · unfold vrft5
          split <;> first | rfl | (rw [hL] at hi; cases hi)
        · rw [e1]
          exact s_bs22 _ wr.drew
      · intro T c L W hW hL h1 h9
        obtain ⟨c', W', e1, e2, e3⟩ := hW.app h1 h9 hL (unhide HVR) (unhide HXR) (by omega) T (by decide) (by decide)
        refine ⟨c', W', fun i hi => ?_, e2, e3⟩
        unfold vrft5
        split <;> first | rfl | (rw [e1]) | (rw [hL] at hi; cases hi)
      · intro c L W hW hL h10 _
        obtain ⟨e1, e2⟩ := hW.store h10 hL (by decide) (by decide) (by decide) rfl (by simp [prow])
        exact ⟨_, e1, e2⟩
      intro c L W hall hW
      obtain ⟨_, _, p, cp', e, o1, o2, o3, o4⟩ := hW.post (hall 10 (by omega))
      rw [hall 12 (by omega), if_pos rfl] at o4
      have HO4 := hide o4
      have HO1 := hide (show W.ownsRow 0 3 1 c.v (j + 1) ((ftl l (j + 1)).map fun z => I z) by rw [unhide HNX, List.map_append]; exact o1)
      have HO3 := hide (fun k (hk : c.v.ownBlock = some k) => (o3 k hk).elim (fun r => unhide HV0 k r) (fun r => Nat.le_trans (unhide HBR).size r))
      have HO2 := hide (o2.below (unhide HBR) (unhide HBR).size (fun k hk => hk.elim (fun r => unhide HV0 k r) (fun r => by rw [r]; exact unhide HX0)))
      clear o1 o2 o3 o4 e hW hall
      simp only [Act.put, List.setIfInBounds_toArray, List.set_cons_succ, List.set_cons_zero]
      go_wp2
      go_round
      case measure => simp [Go.RowKit.intOf]; omega
      case rel => exact ⟨j + 1, c.v, by omega, by omega, by simp, unhide HO4, unhide HO1, unhide HO3, unhide HO2⟩
    · have hend : j = min 122 l.length := by omega
      have hfe := ftl_end l j hend
      have hfl : (ftl l j).length = j := by rw [ftl_len]; omega
      rw [← hfe, hfl] at HF
      have HV0 := hide hv0
      have HFL := hide hfl
      have c4 : wr.cell? ⟨w.heap.size, 4, none⟩ = some (S x) := cell_of_row _ _ 4 _ 24 (0, 0) hY
      have hx5 : (wr.setCell ⟨X, 4, none⟩ (S x)).heap[X]? = some (.cells #[I n1, I n2, I n3, .slice q j cp, S x] 24 (0, 0)) := heap_setCell_same wr X 4 _ 24 (S x) hxr
      have o5 := Only.setCell wr ⟨X, 4, none⟩ (S x)
      have hneX : ∀ k, (Value.slice q j cp).ownBlock = some k → ¬ k = X := fun k hk e => by
        obtain ⟨cs, r⟩ := owns_lt hv k hk
        rw [e, hxr] at r
        cases r
      have HNX := hide hneX
      have hv5 := owns_only hv o5 hneX
      have hb5 : Below WA.heap.size WA (wr.setCell ⟨X, 4, none⟩ (S x)) := o5.below hb hb.size (fun k hk => by rw [show k = X from hk]; exact unhide HX0)
      have f4 := frz hxr 4
      have x4 := cell_of_row _ _ 4 _ 24 (0, 0) hxr
      have hXl := lt_of_row hxr
      have HX5 := hide hx5
      have HV5 := hide hv5
      have HB5 := hide hb5
      clear hx5 hv5 hb5 o5 hneX hxr hv hv0 hb hY hfe hend hfl
      generalize hW5 : wr.setCell ⟨X, 4, none⟩ (S x) = W5 at *
      have HW5 := hide hW5
      clear hW5 P4 HIN
      rcases (show ¬ j < l.length ∨ (j < l.length ∧ ¬ j < 122) by omega) with hA | hA
      · have hA1 : ¬ (j : Int) < (l.length : Int) := by omega
        go_upto_region 7 with fail
        rw [show wr.setCell ⟨X, 4, none⟩ (.string ⟨x.toArray⟩) = W5 from unhide HW5]
        clear c3 c4 f4 x4 hXl hYl HW5 HX
        obtain ⟨d0, d1, d2, d3, d4⟩ := box5 (unhide HX5) (Below.refl _ _) (lt_of_row (unhide HX5))
        have hXl := lt_of_row (unhide HX5)
        by_cases hgt : 488 - 4 * j < x.length
        · have hgt' : (488 : Int) - 4 * (j : Int) < (x.length : Int) := by omega
          have S8 : ∀ W, (Instr.slice 9 (S x) none (some (.int .i64 (488 - 4 * (j : Int)))) none).run Tryz.prog W = .ok (S (x.take (488 - 4 * j))) W := fun W => by
            have h := sliceTo x (488 - 4 * j) (by omega) W
            rw [show ((488 - 4 * j : Nat) : Int) = 488 - 4 * (j : Int) by omega] at h
            exact h
          have hx6 : (W5.setCell ⟨X, 4, none⟩ (S (x.take (488 - 4 * j)))).heap[X]? = some (.cells #[I n1, I n2, I n3, .slice q j cp, S (x.take (488 - 4 * j))] 24 (0, 0)) := heap_setCell_same W5 X 4 _ 24 (S (x.take (488 - 4 * j))) (unhide HX5)
          have o6 := Only.setCell W5 ⟨X, 4, none⟩ (S (x.take (488 - 4 * j)))
          have hv6 := owns_only (unhide HV5) o6 (unhide HNX)
          have hb6 := o6.below (unhide HB5) (unhide HB5).size (fun k hk => by rw [show k = X from hk]; exact unhide HX0)
          have f4 := frz (unhide HX5) 4
          have HX6 := hide hx6
          have HV6 := hide hv6
          have HB6 := hide hb6
          clear hx6 o6 hv6 hb6
          generalize x.take (488 - 4 * j) = x' at *
          generalize hW6 : W5.setCell ⟨X, 4, none⟩ (S x') = W6 at *
          have HW6 := hide hW6
          clear hW6
          go_upto_region 9 with fail
          rw [show W5.setCell ⟨X, 4, none⟩ (.string ⟨x'.toArray⟩) = W6 from unhide HW6]
          clear d0 d1 d2 d3 d4 f4 hXl HW6 S8
          obtain ⟨d0, d1, d2, d3, d4⟩ := box5 (unhide HX6) (Below.refl _ _) (lt_of_row (unhide HX6))
          have hXl := lt_of_row (unhide HX6)
          have HY6 := hide (((unhide HB6).block _ (lt_of_row (unhide HG2))).trans (unhide HG2))
          go_wp2_with (refine wp_st24 rfl (.tmp 2) (.tmp 62) rfl (w.heap.size + 1) (by rfl) n1 n2 n3 q j cp x' (by rfl) _ rfl (unhide HY6) ?_)
          refine out1c Tryz.isAgg24 Tryz.sizeOf24 (p := 2) Tryz.results13 rfl (by rfl) (setRow_row (unhide HY6)) rfl ?_
          have o7 := setRow_Only W6 (w.heap.size + 1) #[I n1, I n2, I n3, .slice q j cp, S x']
          refine ⟨q, cp, ?_, ?_, ?_⟩
          · rw [unhide HF]
            simp only
            rw [unhide HFL]
          · rw [unhide HF]
            simp only
            rw [unhide HFL]
            refine owns_only (unhide HV6) o7 (fun k hk e => ?_)
            have := unhide HV0 k hk
            have := unhide HS2
            omega
          · exact (unhide HB2).trans (belowR ((unhide HB6).mono (by have := unhide HS2; omega)) (Nat.le_succ _) _)
        · have hgt' : ¬ (488 : Int) - 4 * (j : Int) < (x.length : Int) := by omega
          rw [show x.take (488 - 4 * j) = x from List.take_of_length_le (by omega)] at HF
          have HY6 := hide (((unhide HB5).block _ (lt_of_row (unhide HG2))).trans (unhide HG2))
          go_wp2_with (refine wp_st24 rfl (.tmp 2) (.tmp 62) rfl (w.heap.size + 1) (by rfl) n1 n2 n3 q j cp x (by rfl) _ rfl (unhide HY6) ?_)
          refine out1c Tryz.isAgg24 Tryz.sizeOf24 (p := 2) Tryz.results13 rfl (by rfl) (setRow_row (unhide HY6)) rfl ?_
          have o7 := setRow_Only W5 (w.heap.size + 1) #[I n1, I n2, I n3, .slice q j cp, S x]
          refine ⟨q, cp, ?_, ?_, ?_⟩
          · rw [unhide HF]
            simp only
            rw [unhide HFL]
          · rw [unhide HF]
            simp only
            rw [unhide HFL]
            refine owns_only (unhide HV5) o7 (fun k hk e => ?_)
            have := unhide HV0 k hk
            have := unhide HS2
            omega
          · exact (unhide HB2).trans (belowR ((unhide HB5).mono (by have := unhide HS2; omega)) (Nat.le_succ _) _)
      · have hA1 : (j : Int) < (l.length : Int) := by omega
        have hA2 : ¬ (j : Int) < 122 := by omega
        go_upto_region 7 with fail
        rw [show wr.setCell ⟨X, 4, none⟩ (.string ⟨x.toArray⟩) = W5 from unhide HW5]
        clear c3 c4 f4 x4 hXl hYl HW5 HX
        obtain ⟨d0, d1, d2, d3, d4⟩ := box5 (unhide HX5) (Below.refl _ _) (lt_of_row (unhide HX5))
        have hXl := lt_of_row (unhide HX5)
        by_cases hgt : 488 - 4 * j < x.length
        · have hgt' : (488 : Int) - 4 * (j : Int) < (x.length : Int) := by omega
          have S8 : ∀ W, (Instr.slice 9 (S x) none (some (.int .i64 (488 - 4 * (j : Int)))) none).run Tryz.prog W = .ok (S (x.take (488 - 4 * j))) W := fun W => by
            have h := sliceTo x (488 - 4 * j) (by omega) W
            rw [show ((488 - 4 * j : Nat) : Int) = 488 - 4 * (j : Int) by omega] at h
            exact h
          have hx6 : (W5.setCell ⟨X, 4, none⟩ (S (x.take (488 - 4 * j)))).heap[X]? = some (.cells #[I n1, I n2, I n3, .slice q j cp, S (x.take (488 - 4 * j))] 24 (0, 0)) := heap_setCell_same W5 X 4 _ 24 (S (x.take (488 - 4 * j))) (unhide HX5)
          have o6 := Only.setCell W5 ⟨X, 4, none⟩ (S (x.take (488 - 4 * j)))
          have hv6 := owns_only (unhide HV5) o6 (unhide HNX)
          have hb6 := o6.below (unhide HB5) (unhide HB5).size (fun k hk => by rw [show k = X from hk]; exact unhide HX0)
          have f4 := frz (unhide HX5) 4
          have HX6 := hide hx6
          have HV6 := hide hv6
          have HB6 := hide hb6
          clear hx6 o6 hv6 hb6
          generalize x.take (488 - 4 * j) = x' at *
          generalize hW6 : W5.setCell ⟨X, 4, none⟩ (S x') = W6 at *
          have HW6 := hide hW6
          clear hW6
          go_upto_region 9 with fail
          rw [show W5.setCell ⟨X, 4, none⟩ (.string ⟨x'.toArray⟩) = W6 from unhide HW6]
          clear d0 d1 d2 d3 d4 f4 hXl HW6 S8
          obtain ⟨d0, d1, d2, d3, d4⟩ := box5 (unhide HX6) (Below.refl _ _) (lt_of_row (unhide HX6))
          have hXl := lt_of_row (unhide HX6)
          have HY6 := hide (((unhide HB6).block _ (lt_of_row (unhide HG2))).trans (unhide HG2))
          go_wp2_with (refine wp_st24 rfl (.tmp 2) (.tmp 62) rfl (w.heap.size + 1) (by rfl) n1 n2 n3 q j cp x' (by rfl) _ rfl (unhide HY6) ?_)
          refine out1c Tryz.isAgg24 Tryz.sizeOf24 (p := 2) Tryz.results13 rfl (by rfl) (setRow_row (unhide HY6)) rfl ?_
          have o7 := setRow_Only W6 (w.heap.size + 1) #[I n1, I n2, I n3, .slice q j cp, S x']
          refine ⟨q, cp, ?_, ?_, ?_⟩
          · rw [unhide HF]
            simp only
            rw [unhide HFL]
          · rw [unhide HF]
            simp only
            rw [unhide HFL]
            refine owns_only (unhide HV6) o7 (fun k hk e => ?_)
            have := unhide HV0 k hk
            have := unhide HS2
            omega
          · exact (unhide HB2).trans (belowR ((unhide HB6).mono (by have := unhide HS2; omega)) (Nat.le_succ _) _)
        · have hgt' : ¬ (488 : Int) - 4 * (j : Int) < (x.length : Int) := by omega
          rw [show x.take (488 - 4 * j) = x from List.take_of_length_le (by omega)] at HF
          have HY6 := hide (((unhide HB5).block _ (lt_of_row (unhide HG2))).trans (unhide HG2))
          go_wp2_with (refine wp_st24 rfl (.tmp 2) (.tmp 62) rfl (w.heap.size + 1) (by rfl) n1 n2 n3 q j cp x (by rfl) _ rfl (unhide HY6) ?_)
          refine out1c Tryz.isAgg24 Tryz.sizeOf24 (p := 2) Tryz.results13 rfl (by rfl) (setRow_row (unhide HY6)) rfl ?_
          have o7 := setRow_Only W5 (w.heap.size + 1) #[I n1, I n2, I n3, .slice q j cp, S x]
          refine ⟨q, cp, ?_, ?_, ?_⟩
          · rw [unhide HF]
            simp only
            rw [unhide HFL]
          · rw [unhide HF]
            simp only
            rw [unhide HFL]
            refine owns_only (unhide HV5) o7 (fun k hk e => ?_)
            have := unhide HV0 k hk
            have := unhide HS2
            omega
          · exact (unhide HB2).trans (belowR ((unhide HB5).mono (by have := unhide HS2; omega)) (Nat.le_succ _) _)
end Go.Proofs.YtjopnhhdemfniaaGreatDoor
