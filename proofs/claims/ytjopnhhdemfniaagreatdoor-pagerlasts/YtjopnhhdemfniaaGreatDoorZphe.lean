import Derived.Test.YtjopnhhdemfniaaGreatDoorZphd
import Derived.Test.YtjopnhhdemfniaaGreatDoorZdst
namespace Go.Proofs.YtjopnhhdemfniaaGreatDoor
open Go.RowKit
set_option maxHeartbeats 8000000
set_option maxRecDepth 8000
theorem blockH_any (h : Hd) (w : World) (hg : 0 ≤ h.gen ∧ h.gen ≤ 9223372036854775807) : Calls Tryz.prog 183 #[hda h] w fun e w' => e = .returned (I (h.gen % 2)) ∧ w' = w.alloc (.cells (hdc h) 123) := by
  obtain ⟨g, r, b, x⟩ := h
  unfold hda hdc
  simp only at hg ⊢
  obtain ⟨h0, h1⟩ := hg
  go_enter Tryz.func183, Tryz.ntmps183
  go_wp2
  go_ret
  refine ⟨?_, rfl⟩
  first | rfl | exact ret_int (by simp [Int.tmod_eq_emod_of_nonneg h0])
/-- A head's box, written cell by cell. -/
theorem set4 {w : World} {Z : Nat} {old : Array Value} (h : w.heap[Z]? = some (.cells old 123 (0, 0))) (ho : old.size = 4) (a b c d : Value) : ((((w.setCell ⟨Z, 0, none⟩ a).setCell ⟨Z, 1, none⟩ b).setCell ⟨Z, 2, none⟩ c).setCell ⟨Z, 3, none⟩ d).heap[Z]? = some (.cells #[a, b, c, d] 123 (0, 0)) := by
  rw [heap_setCell_same _ Z 3 _ 123 d (heap_setCell_same _ Z 2 _ 123 c (heap_setCell_same _ Z 1 _ 123 b (heap_setCell_same _ Z 0 _ 123 a h)))]
  match old, ho with
  | ⟨[x0, x1, x2, x3]⟩, _ => rfl
theorem set4_only (w : World) (Z : Nat) (a b c d : Value) : Only (fun k => k = Z) w ((((w.setCell ⟨Z, 0, none⟩ a).setCell ⟨Z, 1, none⟩ b).setCell ⟨Z, 2, none⟩ c).setCell ⟨Z, 3, none⟩ d) :=
  ((((Only.setCell w ⟨Z, 0, none⟩ a).put ⟨Z, 1, none⟩ b (.inl rfl)).put ⟨Z, 2, none⟩ c (.inl rfl)).put ⟨Z, 3, none⟩ d (.inl rfl))
/-- A head and a word come out. -/
theorem outH {fn : Func} {p q : Tmp} {W : World} {a : Act} {Z : Nat} {g r b : Int} {x : Bs} {v : Value} {Post : Ending → World → Prop} (hf : fn.results = #[.cell p 123, .tmp q]) (hd : a.defers = []) (ht : a.tmps.getD p undef = .pointer (some ⟨Z, 0, none⟩)) (hv : a.tmps.getD q undef = v) (h : W.heap[Z]? = some (.cells #[I g, I r, I b, S x] 123 (0, 0))) (hp : Post (.returned (.tuple #[hda ⟨g, r, b, x⟩, v])) W) : bodyPost Tryz.prog fn Post .ret a W := by
  obtain ⟨e0, e1, e2, e3⟩ := box4 h (Below.refl _ _) (lt_of_row h)
  subst hv
  exact bodyPost_ret (results_h2 hf _ _ Z _ _ _ _ ht e0 e1 e2 e3) hd hp
/-- What headOn tells. -/
def hok (d : Ds) (b : Nat) : Bool := (phr (cur d b)).2 == 0 && ((phr (cur d b)).1.blocks == (d.last.length : Int)) && ((phr (cur d b)).1.gen % 2 == (b : Int))
def hon (d : Ds) (b : Nat) : Hd × Bool := if reachv d b = 0 then ((phr (cur d b)).1, hok d b) else (noHd, false)
theorem phr_gen (s : Bs) : 0 ≤ (phr s).1.gen ∧ (phr s).1.gen ≤ 4611686018427387904 := by
  unfold phr
  split
  · rename_i h q
    obtain ⟨_, m, _⟩ := phd_some q
    simp only [Hd.may, isGn, Bool.and_eq_true, decide_eq_true_eq] at m
    show 0 ≤ h.gen ∧ h.gen ≤ 4611686018427387904
    omega
  · simp [noHd]
theorem headOn_any {D : Nat} {d : Ds} {vw vl : Value} {w : World} (h : DAt D d vw vl w) (ho : Ok d) (b : Nat) :
    Calls Tryz.prog 182 #[ptr D, I b] w fun e w' => e = .returned (.tuple #[hda (hon d b).1, .bool (hon d b).2]) ∧ Below w.heap.size w w' := by
  have ZB := hide ((Below.refl w.heap.size w).alloc (Nat.le_refl _) (.cells #[I 0, I 0, I 0, S []] 123))
  have Z0 := hide (heap_alloc_new w (.cells #[I 0, I 0, I 0, S []] 123))
  have H0 := hide (read_any (h.below (unhide ZB)) ho b)
  have HD := hide h
  clear h ho
  unfold hon
  by_cases hr : reachv d b = 0
  · rw [if_pos hr]
    have hrs : readS d b = cur d b := by unfold readS; rw [if_pos hr]; simp
    rw [hrs, hr] at H0
    generalize hc : cur d b = s at *
    have H1 := hide (fun W => parseHead_any s W)
    have hgen := phr_gen s
    unfold hok
    rw [hc]
    clear hc hrs hr
    generalize hph : phr s = ph at *
    obtain ⟨hh, er⟩ := ph
    simp only at hgen H1 ⊢
    have HD2 := hide ((unhide HD).below (unhide ZB))
    have HBk := hide (fun W => blockH_any hh W ⟨hgen.1, by omega⟩)
    by_cases he : er = 0
    · subst he
      by_cases hb : hh.blocks = (d.last.length : Int)
      · have hb2 : (hh.blocks == (d.last.length : Int)) = true := by rw [beq_iff_eq]; exact hb
        rw [hb2]
        obtain ⟨g, r, bl, nt⟩ := hh
        simp only at hgen H1 HBk hb
        go_enter Tryz.func182, Tryz.ntmps182
        go_wp2_with fail
        refine (unhide H0).mono ?_
        rintro e w1 ⟨rfl, b1⟩
        generalize w.alloc (.cells #[I 0, I 0, I 0, S []] 123) = W0 at *
        have hz : w.heap.size < W0.heap.size := lt_of_row (unhide Z0)
        have B1 := hide b1
        clear b1
        go_wp2_with fail
        refine (unhide H1 _).mono ?_
        rintro e w2 ⟨rfl, b2⟩
        have B2 := hide ((unhide B1).trans (b2.mono (unhide B1).size))
        have hZ := ((unhide B2).block _ hz).trans (unhide Z0)
        obtain ⟨c0, c1, c2, c3⟩ := box4 hZ (Below.refl _ _) (lt_of_row hZ)
        have f0 := frz hZ 0
        have f1 := frz hZ 1
        have f2 := frz hZ 2
        have f3 := frz hZ 3
        have hzl := lt_of_row hZ
        have HZ := hide hZ
        have HDk := hide (fun W (q : Below W0.heap.size W0 W) => size_any ((unhide HD2).below q))
        clear b2 hZ H0 H1
        subst hb
        unfold hda hdc at HBk
        clear hb2
        go_wp2
        go_region_with (first | (go_at_call 103; refine (unhide HDk _ (by first | exact unhide B2 | exact (unhide B2).drew | exact ((unhide B2).alloc (unhide B2).size _).drew)).mono ?_; rintro e w5 ⟨rfl, rfl⟩) | (go_at_call 183; refine (unhide HBk _).mono ?_; rintro e w5 ⟨rfl, rfl⟩))
        all_goals go_wp2
        all_goals (
          have o4 := set4_only w2 w.heap.size (I g) (I r) (I d.last.length) (S nt)
          have h4 := set4 (unhide HZ) rfl (I g) (I r) (I d.last.length) (S nt)
          have bb := (unhide ZB).trans ((unhide B2).mono (unhide ZB).size)
          have b4 := o4.below bb bb.size (fun i e => by omega)
          refine outH (p := 4) (q := 5) rfl (by rfl) (by rfl) (by rfl) ((heap_alloc_old _ _ (Nat.lt_of_lt_of_le (lt_of_row h4) (by simp))).trans ((heap_alloc_old _ _ (lt_of_row h4)).trans h4)) ⟨by first | rfl | simp, ?_⟩
          exact ((b4.alloc (by have := o4.size; omega) _).alloc (by have := o4.size; simp; omega) _).drew)
      · have hb2 : (hh.blocks == (d.last.length : Int)) = false := by rw [beq_eq_false_iff_ne]; exact hb
        rw [hb2]
        obtain ⟨g, r, bl, nt⟩ := hh
        simp only at hgen H1 HBk hb
        go_enter Tryz.func182, Tryz.ntmps182
        go_wp2_with fail
        refine (unhide H0).mono ?_
        rintro e w1 ⟨rfl, b1⟩
        generalize w.alloc (.cells #[I 0, I 0, I 0, S []] 123) = W0 at *
        have hz : w.heap.size < W0.heap.size := lt_of_row (unhide Z0)
        have B1 := hide b1
        clear b1
        go_wp2_with fail
        refine (unhide H1 _).mono ?_
        rintro e w2 ⟨rfl, b2⟩
        have B2 := hide ((unhide B1).trans (b2.mono (unhide B1).size))
        have hZ := ((unhide B2).block _ hz).trans (unhide Z0)
        obtain ⟨c0, c1, c2, c3⟩ := box4 hZ (Below.refl _ _) (lt_of_row hZ)
        have f0 := frz hZ 0
        have f1 := frz hZ 1
        have f2 := frz hZ 2
        have f3 := frz hZ 3
        have hzl := lt_of_row hZ
        have HZ := hide hZ
        have HDk := hide (fun W (q : Below W0.heap.size W0 W) => size_any ((unhide HD2).below q))
        clear b2 hZ H0 H1
        have hb3 : (bl == (d.last.length : Int)) = false := hb2
        clear hb2
        go_wp2
        first | go_region_with (go_at_call 103; refine (unhide HDk _ (by first | exact unhide B2 | exact (unhide B2).drew | exact ((unhide B2).alloc (unhide B2).size _).drew)).mono ?_; rintro e w5 ⟨rfl, rfl⟩) | fail
        all_goals go_wp2
        all_goals (
          have o4 := set4_only w2 w.heap.size (I g) (I r) (I bl) (S nt)
          have h4 := set4 (unhide HZ) rfl (I g) (I r) (I bl) (S nt)
          have bb := (unhide ZB).trans ((unhide B2).mono (unhide ZB).size)
          have b4 := o4.below bb bb.size (fun i e => by omega)
          refine outH (p := 4) (q := 5) rfl (by rfl) (by rfl) (by rfl) ((heap_alloc_old _ _ (lt_of_row h4)).trans h4) ⟨by first | rfl | simp, ?_⟩
          exact (b4.alloc (by have := o4.size; omega) _).drew)
    · have he2 : (er == 0) = false := by rw [beq_eq_false_iff_ne]; exact he
      rw [he2]
      have hb : True := trivial
      obtain ⟨g, r, bl, nt⟩ := hh
      simp only at hgen H1 HBk hb
      go_enter Tryz.func182, Tryz.ntmps182
      go_wp2_with fail
      refine (unhide H0).mono ?_
      rintro e w1 ⟨rfl, b1⟩
      generalize w.alloc (.cells #[I 0, I 0, I 0, S []] 123) = W0 at *
      have hz : w.heap.size < W0.heap.size := lt_of_row (unhide Z0)
      have B1 := hide b1
      clear b1
      go_wp2_with fail
      refine (unhide H1 _).mono ?_
      rintro e w2 ⟨rfl, b2⟩
      have B2 := hide ((unhide B1).trans (b2.mono (unhide B1).size))
      have hZ := ((unhide B2).block _ hz).trans (unhide Z0)
      obtain ⟨c0, c1, c2, c3⟩ := box4 hZ (Below.refl _ _) (lt_of_row hZ)
      have f0 := frz hZ 0
      have f1 := frz hZ 1
      have f2 := frz hZ 2
      have f3 := frz hZ 3
      have hzl := lt_of_row hZ
      have HZ := hide hZ
      have HDk := hide (fun W (q : Below W0.heap.size W0 W) => size_any ((unhide HD2).below q))
      clear b2 hZ H0 H1
      go_wp2
      go_region
      go_wp2
      have o4 := set4_only w2 w.heap.size (I g) (I r) (I bl) (S nt)
      have h4 := set4 (unhide HZ) rfl (I g) (I r) (I bl) (S nt)
      have bb := (unhide ZB).trans ((unhide B2).mono (unhide ZB).size)
      have b4 := o4.below bb bb.size (fun i e => by omega)
      refine outH (p := 4) (q := 5) rfl rfl rfl rfl ((heap_alloc_old _ _ (lt_of_row h4)).trans h4) ⟨?_, ?_⟩
      · simp
      · exact (b4.alloc (by have := o4.size; omega) _).drew
  · rw [if_neg hr]
    have hrs : readS d b = [] := by unfold readS; rw [if_neg hr]
    rw [hrs] at H0
    generalize reachv d b = er at *
    go_enter Tryz.func182, Tryz.ntmps182
    go_wp2_with fail
    refine (unhide H0).mono ?_
    rintro e w1 ⟨rfl, b1⟩
    generalize w.alloc (.cells #[I 0, I 0, I 0, S []] 123) = W0 at *
    have hz : w.heap.size < W0.heap.size := lt_of_row (unhide Z0)
    have HZ := hide ((b1.block _ hz).trans (unhide Z0))
    have B1 := hide ((unhide ZB).trans (b1.mono (unhide ZB).size))
    clear b1
    go_wp2_with (refine wp_st123 rfl (.tmp 4) (.tmp 21) rfl w.heap.size (by rfl) 0 0 0 [] (by rfl) _ rfl (unhide HZ) ?_)
    have h5 := setRow_heap _ _ _ #[I 0, I 0, I 0, S []] 123 _ (unhide HZ)
    have oF := setRow_only' w1 w.heap.size #[I 0, I 0, I 0, S []]
    refine outH (p := 4) (q := 5) rfl (by rfl) (by rfl) (by rfl) h5 ⟨rfl, ?_⟩
    exact oF.below (unhide B1) (unhide B1).size (fun i e => by omega)
end Go.Proofs.YtjopnhhdemfniaaGreatDoor
namespace Go.Proofs.YtjopnhhdemfniaaGreatDoor
open Go.RowKit
set_option maxHeartbeats 8000000
set_option maxRecDepth 8000
/-- The head that counts, as far as the blocks below k tell. -/
def lst (d : Ds) : Nat → Hd
  | 0 => noHd
  | k + 1 => if (hon d k).2 = true ∧ (lst d k).gen < (hon d k).1.gen then (hon d k).1 else lst d k
def hct (d : Ds) : Hd × Bool := (lst d 2, decide (0 < (lst d 2).gen))
structure Hc (w : World) (h : Hd) (W : World) : Prop where
  z : W.heap[w.heap.size]? = some (.cells #[I 0, I 0, I 0, S []] 123 (0, 0))
  t : W.heap[w.heap.size + 1]? = some (.cells (hdc h) 123 (0, 0))
  b : Below w.heap.size w W
theorem headThatCounts_any {D : Nat} {d : Ds} {vw vl : Value} {w : World} (h : DAt D d vw vl w) (ho : Ok d) :
    Calls Tryz.prog 102 #[ptr D] w fun e w' => e = .returned (.tuple #[hda (hct d).1, .bool (hct d).2]) ∧ Below w.heap.size w w' := by
  have HD := hide (fun W (q : Below w.heap.size w W) b => headOn_any (h.below q) ho b)
  clear h
  have h1 := heap_alloc_new w (.cells #[I 0, I 0, I 0, S []] 123)
  have h2 := heap_alloc_new (w.alloc (.cells #[I 0, I 0, I 0, S []] 123)) (.cells #[I 0, I 0, I 0, S []] 123)
  have hsz : (w.alloc (.cells #[I 0, I 0, I 0, S []] 123)).heap.size = w.heap.size + 1 := by simp
  rw [hsz] at h2
  have HI := hide (show Hc w noHd ((w.alloc (.cells #[I 0, I 0, I 0, S []] 123)).alloc (.cells #[I 0, I 0, I 0, S []] 123)) from ⟨(heap_alloc_old _ _ (lt_of_row h1)).trans h1, h2, ((Below.refl w.heap.size w).alloc (Nat.le_refl _) _).alloc (by rw [hsz]; omega) _⟩)
  clear h1 h2 hsz
  go_enter Tryz.func102, Tryz.ntmps102
  go_wp2
  go_loopw [8] (fun i wr => ∃ k : Nat, k ≤ 2 ∧ i = .int .i64 k ∧ Hc w (lst d k) wr) (fun i _ => 2 - (Go.RowKit.intOf i).toNat)
  case atStart => exact ⟨0, by omega, rfl, unhide HI⟩
  case round =>
    clear HI
    obtain ⟨k, hk, rfl, hc⟩ := hrel
    by_cases hlt : k < 2
    · have hlt' : (k : Int) < 2 := by omega
      have H1 := hide (unhide HD wr hc.b k)
      have HE := hide (show lst d (k + 1) = if (hon d k).2 = true ∧ (lst d k).gen < (hon d k).1.gen then (hon d k).1 else lst d k from rfl)
      generalize hon d k = q at *
      obtain ⟨⟨g, r, bl, nt⟩, ok⟩ := q
      generalize lst d k = la at *
      obtain ⟨g0, r0, bl0, nt0⟩ := la
      have HC := hide hc
      clear hc
      unfold hda at H1
      simp only at H1 HE
      go_wp2_with fail
      refine (unhide H1).mono ?_
      rintro e w1 ⟨rfl, b1⟩
      have bA := (Below.refl w1.heap.size w1).alloc (Nat.le_refl _) (.cells #[I g, I r, I bl, S nt] 123)
      have b2 := b1.trans (bA.mono b1.size)
      have hc1 : Hc w ⟨g0, r0, bl0, nt0⟩ (w1.alloc (.cells #[I g, I r, I bl, S nt] 123)) := ⟨(b2.block _ (lt_of_row (unhide HC).z)).trans (unhide HC).z, (b2.block _ (lt_of_row (unhide HC).t)).trans (unhide HC).t, (unhide HC).b.trans (b2.mono (unhide HC).b.size)⟩
      have ht := hc1.t
      unfold hdc at ht
      simp only at ht
      obtain ⟨c0, c1, c2, c3⟩ := box4 ht (Below.refl _ _) (lt_of_row ht)
      have HC1 := hide hc1
      have hlt1 : w.heap.size + 1 < w1.heap.size := Nat.lt_of_lt_of_le (lt_of_row (unhide HC).t) b1.size
      have HT := hide ht
      clear b1 bA b2 hc1 HC H1 ht
      cases ok
      · have hE : lst d (k + 1) = ⟨g0, r0, bl0, nt0⟩ := by rw [unhide HE]; simp
        have HE2 := hide hE
        clear hE
        go_wp2
        go_roundw
        case rel => exact ⟨k + 1, by omega, by go_num, by rw [unhide HE2]; exact unhide HC1⟩
        case measure => simp [Go.RowKit.intOf]; omega
      · by_cases hg : g0 < g
        · have hE : lst d (k + 1) = ⟨g, r, bl, nt⟩ := by rw [unhide HE]; simp [hg]
          have HE2 := hide hE
          clear hE
          go_wp2_with (refine wp_st123 rfl (.tmp 4) (.tmp 25) rfl (w.heap.size + 1) (by rfl) g r bl nt (by rfl) _ rfl (unhide HT) ?_)
          have h5 := setRow_heap _ _ _ #[I g, I r, I bl, S nt] 123 _ (unhide HT)
          have oF := setRow_only' (w1.alloc (.cells #[I g, I r, I bl, S nt] 123)) (w.heap.size + 1) #[I g, I r, I bl, S nt]
          have hc1 := unhide HC1
          have HC2 := hide (show Hc w ⟨g, r, bl, nt⟩ ((w1.alloc (.cells #[I g, I r, I bl, S nt] 123)).setRow (w.heap.size + 1) #[I g, I r, I bl, S nt]) from ⟨(oF.block _ (lt_of_row hc1.z) (by omega)).trans hc1.z, h5, oF.below hc1.b hc1.b.size (fun i e => by omega)⟩)
          clear h5 oF hc1
          go_wp2
          go_roundw
          case rel => exact ⟨k + 1, by omega, by go_num, by rw [unhide HE2]; exact unhide HC2⟩
          case measure => simp [Go.RowKit.intOf]; omega
        · have hE : lst d (k + 1) = ⟨g0, r0, bl0, nt0⟩ := by rw [unhide HE]; simp [hg]
          have HE2 := hide hE
          clear hE
          go_wp2
          go_roundw
          case rel => exact ⟨k + 1, by omega, by go_num, by rw [unhide HE2]; exact unhide HC1⟩
          case measure => simp [Go.RowKit.intOf]; omega
    · have hlt' : ¬ (k : Int) < 2 := by omega
      obtain rfl : k = 2 := by omega
      have HH := hide (show hct d = (lst d 2, decide (0 < (lst d 2).gen)) from rfl)
      generalize lst d 2 = la at *
      obtain ⟨g0, r0, bl0, nt0⟩ := la
      have ht := hc.t
      have hz := hc.z
      unfold hdc at ht
      simp only at ht
      obtain ⟨c0, c1, c2, c3⟩ := box4 ht (Below.refl _ _) (lt_of_row ht)
      obtain ⟨d0, d1, d2, d3⟩ := box4 hz (Below.refl _ _) (lt_of_row hz)
      have f0 := frz hz 0
      have f1 := frz hz 1
      have f2 := frz hz 2
      have f3 := frz hz 3
      have HC := hide hc
      clear hc ht hz
      go_wp2
      go_region
      all_goals go_wp2
      all_goals (
        have h4 := set4 (unhide HC).z rfl (I g0) (I r0) (I bl0) (S nt0)
        have o4 := set4_only wr w.heap.size (I g0) (I r0) (I bl0) (S nt0)
        refine outH (p := 2) (q := 3) rfl (by rfl) (by rfl) (by rfl) h4 ⟨?_, ?_⟩
        · rw [unhide HH]; rfl
        · exact (o4.below (unhide HC).b (unhide HC).b.size (fun i e => by omega)).drew)
end Go.Proofs.YtjopnhhdemfniaaGreatDoor
namespace Go.Proofs.YtjopnhhdemfniaaGreatDoor
open Go.RowKit
set_option maxHeartbeats 8000000
set_option maxRecDepth 8000
theorem Ok.sync {d : Ds} (h : Ok d) : Ok d.sync := by
  unfold Ds.sync
  split
  · exact h
  · split
    · exact h.act
    · have ha := h.act
      have e : d.act.last = d.last ∧ d.act.ws = d.ws := by unfold Ds.act; split <;> exact ⟨rfl, rfl⟩
      refine ⟨?_, (fun x hx => absurd hx (by simp)), snc_sz h.sz h.lt _ (Nat.le_refl _), by show 8 ≤ (snc d.last d.ws d.ws.length).length ∧ (snc d.last d.ws d.ws.length).length ≤ 4096; rw [snc_len]; exact h.len, ha.fuse⟩
      intro i j _ hj; exact absurd hj (Nat.not_lt_zero _)
theorem write_len (d : Ds) (b : Int) (s : Bs) : (d.write b s).last.length = d.last.length := by
  unfold Ds.write Ds.act Ds.put
  repeat' split
  all_goals rfl
theorem sync_len (d : Ds) : d.sync.last.length = d.last.length := by
  unfold Ds.sync Ds.act
  repeat' split
  all_goals first | rfl | (show (snc _ _ _).length = _; rw [snc_len])
/-- Acts that a disk has done: more by one at most. -/
theorem act_acts (d : Ds) : d.act.acts = d.acts ∨ d.act.acts = d.acts + 1 := by
  unfold Ds.act
  split
  · exact .inl rfl
  · exact .inr rfl
theorem write_acts (d : Ds) (b : Int) (s : Bs) : d.acts ≤ (d.write b s).acts ∧ (d.write b s).acts ≤ d.acts + 1 := by
  unfold Ds.write Ds.put
  have := act_acts d
  repeat' split
  all_goals (try simp only) <;> omega
theorem sync_acts (d : Ds) : d.acts ≤ d.sync.acts ∧ d.sync.acts ≤ d.acts + 1 := by
  unfold Ds.sync
  have := act_acts d
  repeat' split
  all_goals (try simp only) <;> omega
/-- A head is written where it is right, and made to last. -/
def wrhv (d : Ds) (h : Hd) : Int := if writev d (h.gen % 2) h.blk ≠ 0 then writev d (h.gen % 2) h.blk else syncv (d.write (h.gen % 2) h.blk)
def wrhd (d : Ds) (h : Hd) : Ds := if writev d (h.gen % 2) h.blk ≠ 0 then d.write (h.gen % 2) h.blk else (d.write (h.gen % 2) h.blk).sync
/-- What a disk's call leaves: the disk, within its own blocks and new ones. -/
def DTo (D : Nat) (vw vl : Value) (d' : Ds) (w w' : World) : Prop := ∃ vw', DAt D d' vw' vl w' ∧ Only (Of D vw vl) w w' ∧ ∀ k, vw'.ownBlock = some k → vw.ownBlock = some k ∨ w.heap.size ≤ k
theorem DTo.trans {D : Nat} {vw vl : Value} {d2 : Ds} {w w1 w2 : World} {vw1 : Value} (o1 : Only (Of D vw vl) w w1) (n1 : ∀ k, vw1.ownBlock = some k → vw.ownBlock = some k ∨ w.heap.size ≤ k) (h2 : DTo D vw1 vl d2 w1 w2) : DTo D vw vl d2 w w2 := by
  obtain ⟨vw', a, b, c⟩ := h2
  refine ⟨vw', a, o1.trans b (fun k hk q => ?_), fun k hk => ?_⟩
  · rcases q with q | q | q
    · exact .inl q
    · rcases n1 k q with e | e
      · exact .inr (.inl e)
      · omega
    · exact .inr (.inr q)
  · rcases c k hk with e | e
    · exact n1 k e
    · exact .inr (Nat.le_trans o1.size e)
theorem writeD {D : Nat} {d : Ds} {vw vl : Value} {w : World} (h : DAt D d vw vl w) (ho : Ok d) (ha : 0 ≤ d.acts ∧ d.acts ≤ 1000000000000000000) (b : Int) (s : Bs) :
    Calls Tryz.prog 89 #[ptr D, I b, S s] w fun e w' => e = .returned (I (writev d b s)) ∧ DTo D vw vl (d.write b s) w w' := by
  refine (write_any h ho ha b s).mono ?_
  rintro e w' ⟨rfl, vw', h1, h2, h3⟩
  exact ⟨rfl, vw', h1, h2.mono (fun k _ q => q.elim .inl (fun q => .inr (.inl q))), h3⟩
theorem syncD {D : Nat} {d : Ds} {vw vl : Value} {w : World} (h : DAt D d vw vl w) (ho : Ok d) (ha : 0 ≤ d.acts ∧ d.acts ≤ 1000000000000000000) :
    Calls Tryz.prog 87 #[ptr D] w fun e w' => e = .returned (I (syncv d)) ∧ DTo D vw vl d.sync w w' := by
  refine (sync_any h ho ha).mono ?_
  rintro e w' ⟨rfl, vw', h1, h2, h3⟩
  exact ⟨rfl, vw', h1, h2.mono (fun k _ q => q.elim .inl (fun q => .inr (.inr q))), fun k hk => .inl (h3 k hk)⟩
theorem DTo.below {D : Nat} {d : Ds} {vw vl : Value} {w w' : World} (h : DAt D d vw vl w) (b : Below w.heap.size w w') : DTo D vw vl d w w' := ⟨vw, h.below b, Only.of_below b, fun _ q => .inl q⟩
theorem writeHead_any {D : Nat} {d : Ds} {vw vl : Value} {w : World} (h : DAt D d vw vl w) (ho : Ok d) (ha : 0 ≤ d.acts ∧ d.acts ≤ 999999999999999999) (x : Hd) (hm : x.may = true) :
    Calls Tryz.prog 104 #[ptr D, hda x] w fun e w' => e = .returned (I (wrhv d x)) ∧ DTo D vw vl (wrhd d x) w w' := by
  have bA := (Below.refl w.heap.size w).alloc (Nat.le_refl _) (.cells (hdc x) 123)
  have hg := heap_alloc_new w (.cells (hdc x) 123)
  have H0 := hide (printHead_any x (w.alloc (.cells (hdc x) 123)) (by rw [Hd.may_note hm]; omega))
  have HPR : prh x = (x.blk, 0) := by unfold prh; rw [if_pos hm]
  rw [HPR] at H0
  have hgen : 0 ≤ x.gen ∧ x.gen ≤ 9223372036854775807 := by
    simp only [Hd.may, isGn, Bool.and_eq_true, decide_eq_true_eq] at hm
    omega
  have HBk := hide (fun W => blockH_any x W hgen)
  have HWr := hide (fun W (q : Below w.heap.size w W) => writeD (h.below q) ho ⟨ha.1, by omega⟩ (x.gen % 2) x.blk)
  have HSy := hide (fun W vw1 (q : DAt D (d.write (x.gen % 2) x.blk) vw1 vl W) => syncD q (ho.write _ _) (by have := write_acts d (x.gen % 2) x.blk; omega))
  have HD := hide h
  have HV := hide (show wrhv d x = if writev d (x.gen % 2) x.blk ≠ 0 then writev d (x.gen % 2) x.blk else syncv (d.write (x.gen % 2) x.blk) from rfl)
  have HW := hide (show wrhd d x = if writev d (x.gen % 2) x.blk ≠ 0 then d.write (x.gen % 2) x.blk else (d.write (x.gen % 2) x.blk).sync from rfl)
  generalize d.write (x.gen % 2) x.blk = d1 at *
  generalize wrhv d x = RV at *
  generalize wrhd d x = RD at *
  clear h ho ha hm HPR hgen
  generalize writev d (x.gen % 2) x.blk = wv at *
  generalize x.blk = KB at *
  obtain ⟨g, r, b, n⟩ := x
  unfold hda hdc at *
  simp only at H0 HBk HWr HSy HV HW bA hg
  have HA := hide bA
  have HG := hide hg
  clear bA hg
  generalize g % 2 = bk at *
  by_cases hw : wv = 0
  · have hV : RV = syncv d1 := by rw [unhide HV, if_neg (by simp [hw])]
    have hD : RD = d1.sync := by rw [unhide HW, if_neg (by simp [hw])]
    subst hV hD hw
    go_enter Tryz.func104, Tryz.ntmps104
    go_wp2_with fail
    refine (unhide H0).mono ?_
    rintro e w1 ⟨rfl, b1⟩
    obtain ⟨c0, c1, c2, c3⟩ := box4 (unhide HG) b1 (lt_of_row (unhide HG))
    have B1 := hide ((unhide HA).trans (b1.mono (unhide HA).size))
    clear b1
    go_wp2_with fail
    refine (unhide HBk _).mono ?_
    rintro e w2 ⟨rfl, hw2⟩
    have b2 : Below w.heap.size w w2 := by rw [hw2]; exact (unhide B1).alloc (unhide B1).size _
    have H2 := hide (unhide HWr w2 b2)
    have B2 := hide b2
    clear b2 hw2 c0 c1 c2 c3
    go_wp2_with fail
    refine (unhide H2).mono ?_
    rintro e w3 ⟨rfl, vw1, h3, o3, n3⟩
    have H3 := hide (unhide HSy w3 vw1 h3)
    have HT := hide (fun (dd : Ds) (w4 : World) (q : DTo D vw1 vl dd w3 w4) => DTo.trans (Only.of_below (unhide B2)) (fun _ q => .inl q) (DTo.trans o3 n3 q))
    clear h3 o3 n3
    go_wp2_with fail
    refine (unhide H3).mono ?_
    rintro e w4 ⟨rfl, h4⟩
    have H4 := hide (unhide HT _ _ h4)
    clear h4
    go_wp2
    go_ret
    exact ⟨rfl, unhide H4⟩
  · have hV : RV = wv := by rw [unhide HV, if_pos hw]
    have hD : RD = d1 := by rw [unhide HW, if_pos hw]
    subst hV hD
    go_enter Tryz.func104, Tryz.ntmps104
    go_wp2_with fail
    refine (unhide H0).mono ?_
    rintro e w1 ⟨rfl, b1⟩
    obtain ⟨c0, c1, c2, c3⟩ := box4 (unhide HG) b1 (lt_of_row (unhide HG))
    have B1 := hide ((unhide HA).trans (b1.mono (unhide HA).size))
    clear b1
    go_wp2_with fail
    refine (unhide HBk _).mono ?_
    rintro e w2 ⟨rfl, hw2⟩
    have b2 : Below w.heap.size w w2 := by rw [hw2]; exact (unhide B1).alloc (unhide B1).size _
    have H2 := hide (unhide HWr w2 b2)
    have B2 := hide b2
    clear b2 hw2 c0 c1 c2 c3
    go_wp2_with fail
    refine (unhide H2).mono ?_
    rintro e w3 ⟨rfl, h3⟩
    have H4 := hide (DTo.trans (Only.of_below (unhide B2)) (fun _ q => .inl q) h3)
    clear h3
    go_wp2
    go_ret
    exact ⟨rfl, unhide H4⟩
end Go.Proofs.YtjopnhhdemfniaaGreatDoor
namespace Go.Proofs.YtjopnhhdemfniaaGreatDoor
open Go.RowKit
set_option maxHeartbeats 8000000
set_option maxRecDepth 8000
def fst1 (d : Ds) (n : Bs) : Hd := ⟨1, 0, d.last.length, n⟩
theorem fst1_may {d : Ds} (ho : Ok d) {n : Bs} (hn : n.length = 16) : (fst1 d n).may = true := by
  have := ho.len
  have h1 : (8 : Int) ≤ (d.last.length : Int) := by omega
  have h2 : (d.last.length : Int) ≤ 4096 := by omega
  unfold Hd.may fst1 isGn
  simp only [hn, h1, h2, decide_true, Bool.and_true, Bool.true_or]
  rfl
/-- What Format answers, and what it leaves. -/
def fmt (d : Ds) (n : Bs) : Int × Ds := if n.length ≠ 16 then (1, d) else if d.dead then (2, d) else if (hct d).2 then (91, d) else if writev d 0 zs ≠ 0 then (writev d 0 zs, d.write 0 zs) else (wrhv (d.write 0 zs) (fst1 d n), wrhd (d.write 0 zs) (fst1 d n))
theorem fil_zs : fil [] 512 = zs := by unfold fil zs; simp
theorem format_any {D : Nat} {d : Ds} {vw vl : Value} {w : World} (h : DAt D d vw vl w) (ho : Ok d) (ha : 0 ≤ d.acts ∧ d.acts ≤ 99999999999999999) (n : Bs) :
    Calls Tryz.prog 35 #[ptr D, S n] w fun e w' => e = .returned (I (fmt d n).1) ∧ DTo D vw vl (fmt d n).2 w w' := by
  have H0 := hide (isNote_any n w)
  have H1 := hide (dead_any h)
  have H2 := hide (headThatCounts_any h ho)
  have HS := hide (fun W (q : Below w.heap.size w W) => size_any (h.below q))
  have HF := hide (fun W => filled_any [] 512 W (by simp) (by omega))
  rw [fil_zs] at HF
  have HWr := hide (fun W (q : Below w.heap.size w W) => writeD (h.below q) ho ⟨ha.1, by omega⟩ 0 zs)
  have HWh := hide (fun (hn : n.length = 16) W vw1 (q : DAt D (d.write 0 zs) vw1 vl W) => writeHead_any q (ho.write _ _) (by have := write_acts d 0 zs; omega) (fst1 d n) (fst1_may ho hn))
  have HD := hide h
  unfold fmt
  by_cases hn : n.length = 16
  · have hn1 : ¬ n.length ≠ 16 := by simp [hn]
    have hn2 : decide (n.length = 16) = true := by simp [hn]
    rw [if_neg hn1]
    rw [hn2] at H0
    clear hn1 hn2
    cases hd : d.dead
    · rw [hd] at H1
      rw [if_neg (by simp)]
      generalize hct d = hc at *
      obtain ⟨⟨g, r, b, nt⟩, ok⟩ := hc
      unfold hda at H2
      simp only at H2 ⊢
      cases ok
      · rw [if_neg (by simp)]
        have HWh2 := hide (unhide HWh hn)
        have hF : hda (fst1 d n) = .agg #[I 1, I 0, I d.last.length, S n] := rfl
        rw [hF] at HWh2
        generalize hd1 : d.write 0 zs = d1 at *
        generalize hwv : writev d 0 zs = wv at *
        by_cases hw : wv = 0
        · subst hw
          rw [if_neg (by simp)]
          have HV := hide (rfl : wrhv d1 (fst1 d n) = wrhv d1 (fst1 d n))
          generalize wrhv d1 (fst1 d n) = RV at *
          generalize wrhd d1 (fst1 d n) = RD at *
          clear h ho ha hd hd1 hwv hn hF HWh
          generalize zs = ZS at *
          go_enter Tryz.func35, Tryz.ntmps35
          go_wp2_with fail
          refine (unhide H0).mono ?_
          rintro e w0 ⟨rfl, hw0⟩
          rw [hw0]
          clear hw0 w0
          go_wp2_with fail
          refine (unhide H1).mono ?_
          rintro e w0 ⟨rfl, hw0⟩
          rw [hw0]
          clear hw0 w0
          go_wp2_with fail
          refine (unhide H2).mono ?_
          rintro e w1 ⟨rfl, b1⟩
          have B1 := hide (b1.alloc b1.size (.cells #[I g, I r, I b, S nt] 123))
          clear b1
          go_wp2_with fail
          refine (unhide HS _ (unhide B1)).mono ?_
          rintro e w0 ⟨rfl, hw0⟩
          rw [hw0]
          clear hw0 w0
          generalize w1.alloc (.cells #[I g, I r, I b, S nt] 123) = W1 at *
          have B2 := hide ((unhide B1).alloc (unhide B1).size (.cells #[I 1, I 0, I d.last.length, S n] 123))
          have hg2 := heap_alloc_new W1 (.cells #[I 1, I 0, I d.last.length, S n] 123)
          have HG2 := hide hg2
          clear hg2
          generalize d.last.length = sz at *
          go_wp2_with fail
          refine (unhide HF _).mono ?_
          rintro e w3 ⟨rfl, b3⟩
          have B3 := hide ((unhide B2).trans (b3.mono (unhide B2).size))
          have HG3 := hide ((b3.block _ (lt_of_row (unhide HG2))).trans (unhide HG2))
          have H3 := hide (unhide HWr w3 (unhide B3))
          have hlt3 : W1.heap.size < w3.heap.size := lt_of_row (unhide HG3)
          have hle1 : w.heap.size ≤ W1.heap.size := (unhide B1).size
          clear b3
          go_wp2_with fail
          refine (unhide H3).mono ?_
          rintro e w4 ⟨rfl, vw1, h4, o4, n4⟩
          have hb4 := (o4.block W1.heap.size hlt3 (fun q => by have := (unhide HD).old _ q; omega)).trans (unhide HG3)
          obtain ⟨c0, c1, c2, c3⟩ := box4 hb4 (Below.refl _ _) (lt_of_row hb4)
          have H4 := hide (unhide HWh2 w4 vw1 h4)
          have HT := hide (fun (dd : Ds) (w5 : World) (q : DTo D vw1 vl dd w4 w5) => DTo.trans (Only.of_below (unhide B3)) (fun _ q => .inl q) (DTo.trans o4 n4 q))
          clear h4 o4 n4 hb4
          go_wp2_with fail
          refine (unhide H4).mono ?_
          rintro e w5 ⟨rfl, h5⟩
          have H5 := hide (unhide HT _ _ h5)
          clear h5
          go_wp2
          go_ret
          exact ⟨rfl, unhide H5⟩
        · rw [if_pos hw]
          clear h ho ha hd hd1 hwv hn hF HWh HWh2
          generalize zs = ZS at *
          go_enter Tryz.func35, Tryz.ntmps35
          go_wp2_with fail
          refine (unhide H0).mono ?_
          rintro e w0 ⟨rfl, hw0⟩
          rw [hw0]
          clear hw0 w0
          go_wp2_with fail
          refine (unhide H1).mono ?_
          rintro e w0 ⟨rfl, hw0⟩
          rw [hw0]
          clear hw0 w0
          go_wp2_with fail
          refine (unhide H2).mono ?_
          rintro e w1 ⟨rfl, b1⟩
          have B1 := hide (b1.alloc b1.size (.cells #[I g, I r, I b, S nt] 123))
          clear b1
          go_wp2_with fail
          refine (unhide HS _ (unhide B1)).mono ?_
          rintro e w0 ⟨rfl, hw0⟩
          rw [hw0]
          clear hw0 w0
          generalize w1.alloc (.cells #[I g, I r, I b, S nt] 123) = W1 at *
          have B2 := hide ((unhide B1).alloc (unhide B1).size (.cells #[I 1, I 0, I d.last.length, S n] 123))
          generalize d.last.length = sz at *
          go_wp2_with fail
          refine (unhide HF _).mono ?_
          rintro e w3 ⟨rfl, b3⟩
          have B3 := hide ((unhide B2).trans (b3.mono (unhide B2).size))
          have H3 := hide (unhide HWr w3 (unhide B3))
          clear b3
          go_wp2_with fail
          refine (unhide H3).mono ?_
          rintro e w4 ⟨rfl, h4⟩
          have H5 := hide (DTo.trans (Only.of_below (unhide B3)) (fun _ q => .inl q) h4)
          clear h4
          go_wp2
          go_ret
          exact ⟨rfl, unhide H5⟩
      · rw [if_pos rfl]
        clear h ho ha hd hn
        go_enter Tryz.func35, Tryz.ntmps35
        go_wp2_with fail
        refine (unhide H0).mono ?_
        rintro e w0 ⟨rfl, hw0⟩
        rw [hw0]
        clear hw0 w0
        go_wp2_with fail
        refine (unhide H1).mono ?_
        rintro e w0 ⟨rfl, hw0⟩
        rw [hw0]
        clear hw0 w0
        go_wp2_with fail
        refine (unhide H2).mono ?_
        rintro e w1 ⟨rfl, b1⟩
        have B1 := hide (b1.alloc b1.size (.cells #[I g, I r, I b, S nt] 123))
        clear b1
        go_wp2
        go_ret
        exact ⟨rfl, DTo.below (unhide HD) (unhide B1)⟩
    · rw [hd] at H1
      rw [if_pos rfl]
      clear h ho ha hd hn
      go_enter Tryz.func35, Tryz.ntmps35
      go_wp2_with fail
      refine (unhide H0).mono ?_
      rintro e w0 ⟨rfl, hw0⟩
      rw [hw0]
      clear hw0 w0
      go_wp2_with fail
      refine (unhide H1).mono ?_
      rintro e w0 ⟨rfl, hw0⟩
      rw [hw0]
      clear hw0 w0
      go_wp2
      go_ret
      exact ⟨rfl, DTo.below (unhide HD) (Below.refl _ _)⟩
  · have hn2 : decide (n.length = 16) = false := by simp [hn]
    rw [if_pos hn]
    rw [hn2] at H0
    clear h ho ha hn hn2
    go_enter Tryz.func35, Tryz.ntmps35
    go_wp2_with fail
    refine (unhide H0).mono ?_
    rintro e w0 ⟨rfl, hw0⟩
    rw [hw0]
    clear hw0 w0
    go_wp2
    go_ret
    exact ⟨rfl, DTo.below (unhide HD) (Below.refl _ _)⟩
end Go.Proofs.YtjopnhhdemfniaaGreatDoor
