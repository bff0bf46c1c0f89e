import Derived.Test.YtjopnhhdemfniaaGreatDoorPio
namespace Go.Proofs.YtjopnhhdemfniaaGreatDoor
open Go.RowKit
set_option maxHeartbeats 8000000
set_option maxRecDepth 8000
variable {P D : Nat} {d : Ds} {p : Pr} {vw vl vu : Value} {w w' : World}
/-- Three boxes at once. -/
structure Bx3 (w : World) (a b c d e : Value) (W : World) : Prop where
  x4 : W.heap[w.heap.size]? = some (.cells #[a] 57 (0, 0))
  x6 : W.heap[w.heap.size + 1]? = some (.cells #[b, c, d, e] 123 (0, 0))
  x8 : W.heap[w.heap.size + 2]? = some (.cells #[I 0] 35 (0, 0))
  sz : W.heap.size = w.heap.size + 3
  bel : Below w.heap.size w W
theorem three_boxes (w : World) (a b c d e : Value) : Bx3 w a b c d e (((w.alloc (.cells #[a] 57)).alloc (.cells #[b, c, d, e] 123)).alloc (.cells #[I 0] 35)) := by
  have h1 := heap_alloc_new w (.cells #[a] 57)
  have h2 := heap_alloc_new (w.alloc (.cells #[a] 57)) (.cells #[b, c, d, e] 123)
  have h3 := heap_alloc_new ((w.alloc (.cells #[a] 57)).alloc (.cells #[b, c, d, e] 123)) (.cells #[I 0] 35)
  have s1 : (w.alloc (.cells #[a] 57)).heap.size = w.heap.size + 1 := by simp
  have s2 : ((w.alloc (.cells #[a] 57)).alloc (.cells #[b, c, d, e] 123)).heap.size = w.heap.size + 2 := by simp
  have s3 : (((w.alloc (.cells #[a] 57)).alloc (.cells #[b, c, d, e] 123)).alloc (.cells #[I 0] 35)).heap.size = w.heap.size + 3 := by simp
  rw [s1] at h2
  rw [s2] at h3
  exact ⟨(heap_alloc_old _ _ (by omega)).trans ((heap_alloc_old _ _ (by omega)).trans h1), (heap_alloc_old _ _ (by omega)).trans h2, h3, s3, (((Below.refl w.heap.size w).alloc (Nat.le_refl _) _).alloc (by omega) _).alloc (by omega) _⟩
/-- What a turn leaves. -/
def TrnTo (P D : Nat) (d : Ds) (p : Pr) (vw vl vu va : Value) (ua : Us) (x : Hd) (l : List Pg) (w w' : World) : Prop :=
  ∃ vw' vu', PD P D (trd d l x) (if trv d l x = 0 then { p with h := x, use := ua } else { p with doubt := true }) vw' vl vu' w' ∧ Only (POf P D vw vl vu) w w' ∧ (∀ k, vw'.ownBlock = some k → vw.ownBlock = some k ∨ w.heap.size ≤ k) ∧ (vu' = vu ∨ vu' = va)
theorem turn_any (h : PD P D d p vw vl vu w) (a : Option Addr) (n cap : Nat) (l : List Pg) (x : Hd) (va : Value) (ua : Us) (hua : Uls w va ua) (hul : ua.length = d.last.length) (hm : x.may = true) (hst : ∀ W, Only (POf P D vw vl vu) w W → Pgs W a n l) (hfr : ∀ x ∈ l, x.fresh = true) (ha : 0 ≤ d.acts ∧ d.acts + n ≤ 9999999999999999) (hn : n ≤ 1000000) :
    Calls Tryz.prog 131 #[ptr P, .slice a n cap, hda x, va] w fun e w' => e = .returned (I (trv d l x)) ∧ TrnTo P D d p vw vl vu va ua x l w w' := by
  have hgn : isGn x.gen = true := by
    have q := hm
    simp only [Hd.may, Bool.and_eq_true] at q
    exact q.1.1.1
  have hlen : l.length = n := ((hst w (Only.refl _ _)).1).symm
  have hok := wps_ok x.gen l d h.ok
  have hac := wps_acts x.gen l d
  rw [hlen] at hac
  have C4 := hide (fun W (q : DAt D d vw vl W) (r : ∀ W', Only (Of D vw vl) W W' → Pgs W' a n l) => writePages_any q h.ok a n cap l x.gen hgn r hfr (by omega) hn)
  have C7 := hide (fun W vw1 (q : DAt D (wps x.gen d l).2 vw1 vl W) => writeHead_any q hok.1 (by omega) x hm)
  have hok2 := wrhd_ok x hok.1
  have HOK := hide hok
  have HOK2 := hide hok2
  have HTT := hide (fun w' (q : ∃ vw' vu', PD P D (if (wps x.gen d l).1 ≠ 0 then (wps x.gen d l).2 else wrhd (wps x.gen d l).2 x) (if (if (wps x.gen d l).1 ≠ 0 then (wps x.gen d l).1 else wrhv (wps x.gen d l).2 x) = 0 then { p with h := x, use := ua } else { p with doubt := true }) vw' vl vu' w' ∧ Only (POf P D vw vl vu) w w' ∧ (∀ k, vw'.ownBlock = some k → vw.ownBlock = some k ∨ w.heap.size ≤ k) ∧ (vu' = vu ∨ vu' = va)) => (show TrnTo P D d p vw vl vu va ua x l w w' from q))
  have HV := hide (show trv d l x = if (wps x.gen d l).1 ≠ 0 then (wps x.gen d l).1 else wrhv (wps x.gen d l).2 x from rfl)
  generalize TrnTo P D d p vw vl vu va ua x l w = TT at *
  generalize trv d l x = V at *
  clear hok hok2 hac ha hgn hfr hm hn hlen
  generalize (wps x.gen d l).1 = e1 at *
  generalize wrhv (wps x.gen d l).2 x = e2 at *
  generalize wrhd (wps x.gen d l).2 x = d2 at *
  generalize (wps x.gen d l).2 = d1 at *
  obtain ⟨q1, cap1, hv1⟩ := owns_form h.us
  obtain ⟨q2, cap2, hv2⟩ := owns_form hua
  have HST := hide hst
  have HD := hide h
  have HU := hide hua
  have HUL := hide hul
  clear h hua hst hul
  subst hv1 hv2
  generalize hul1 : p.use.length = ul at *
  clear hul1
  generalize hul2 : ua.length = ul2 at *
  have HL2 := hide hul2
  clear hul2
  have hW := three_boxes w (ptr P) (I x.gen) (I x.root) (I x.blocks) (S x.note)
  have HW := hide hW
  clear hW
  unfold hda
  have hmf : ∀ (fn : Fn) (first cap : Array Value) (w : World), (Instr.makeFunc fn first cap).run Tryz.prog w = .ok (.func fn first cap) w := fun _ _ _ _ => rfl
  go_enter_defers Tryz.func131, Tryz.ntmps131
  go_upto_region 1 with fail
  generalize hW3 : ((w.alloc (.cells #[ptr P] 57)).alloc (.cells #[I x.gen, I x.root, I x.blocks, S x.note] 123)).alloc (.cells #[I 0] 35) = W3 at *
  clear hW3
  have hP3 := (unhide HD).below (unhide HW).bel
  refine turn_r1 (D := D) w.heap.size W3 p q1 ul cap1 (by kernel_rfl) (by kernel_rfl) (by kernel_rfl) _ (by show 20 ≤ Array.size _; simp) rfl (unhide HW).x4 hP3.blk ?_
  intro ca cb W5 hB5 hca hcb hra hrb
  have hB35 : Below w.heap.size w W5 := (unhide HW).bel.trans (hB5.mono (unhide HW).bel.size)
  have hP5 := (unhide HD).below hB35
  have hsz := (unhide HW).sz
  have hT5 : Tb P x p.h (.slice q1 ul cap1) w.heap.size (w.heap.size + 1) (w.heap.size + 2) ca cb 0 W5 := ⟨(hB5.block _ (by omega)).trans (unhide HW).x4, (hB5.block _ (by omega)).trans (unhide HW).x6, (hB5.block _ (by omega)).trans (unhide HW).x8, hra, hrb⟩
  have HT5 := hide hT5
  have HP5 := hide hP5
  have HB5 := hide hB35
  have hu5 : Uls W5 (.slice q2 ul2 cap2) ua := owns_below (unhide HU) hB35
  have HU5 := hide hu5
  clear hP3 hP5 hT5 hB35 hB5 hra hrb hca hcb hsz hu5
  simp only [Act.put, List.setIfInBounds_toArray, List.set_cons_succ, List.set_cons_zero]
  go_upto_region 2 with fail
  refine turn_r2 (D := D) w.heap.size (w.heap.size + 1) W5 p x q1 q2 ul cap1 ul2 cap2 (by kernel_rfl) (by kernel_rfl) (by kernel_rfl) _ (by show 28 ≤ Array.size _; simp) rfl rfl rfl (unhide HT5).x4 (unhide HT5).x6 (unhide HP5).blk ?_
  intro W6 hO6 hr6
  have hT6 := (unhide HT5).pager (unhide HP5).blk hO6
  have hOn6 : Only (POf P D vw vl (.slice q1 ul cap1)) w W6 := (Only.of_below (unhide HB5)).trans hO6 (fun k _ q => .inl q)
  have hneu : ∀ k, (Value.slice q2 ul2 cap2).ownBlock = some k → ¬ k = P := fun k hk e => by
    obtain ⟨cs, q⟩ := owns_lt (unhide HU5) k hk
    rw [e, (unhide HP5).blk] at q
    cases q
  have hu6 : Uls W6 (.slice q2 ul2 cap2) ua := owns_only (unhide HU5) hO6 hneu
  have hv6 : Uls W6 (.slice q1 ul cap1) p.use := owns_only (unhide HP5).us hO6 (fun k hk e => (unhide HP5).uP (by rw [← e]; exact hk))
  have hP6 : PD P D d { p with h := x, use := ua } vw vl (.slice q2 ul2 cap2) W6 := ⟨(unhide HP5).dat.only hO6 (fun k hk e => (unhide HP5).neP k hk e), (unhide HP5).ok, hr6, hu6, (unhide HL2).trans (unhide HUL)⟩
  have HT6 := hide hT6
  have HO6 := hide hOn6
  have HP6 := hide hP6
  have HV6 := hide hv6
  clear hO6 hr6 hT6 hOn6 hneu hu6 hv6 hP6
  simp only [Act.put, List.setIfInBounds_toArray, List.set_cons_succ, List.set_cons_zero]
  go_upto_region 4 with fail
  refine turn_r4 (D := D) (d := d) (d1 := d1) (vw := vw) (vl := vl) w.heap.size (w.heap.size + 1) W6 { p with h := x, use := ua } x (.slice a n cap) e1 (by kernel_rfl) (by kernel_rfl) (by kernel_rfl) _ (by show 37 ≤ Array.size _; simp) rfl rfl rfl (unhide HT6).x4 (unhide HT6).x6 (unhide HP6).blk (unhide HP6).dat ?_ ?_
  · intro W hb
    exact unhide C4 W ((unhide HP6).dat.below hb) (fun W' o => unhide HST W' ((unhide HO6).trans ((Only.of_below hb).trans o (fun _ _ q => q)) (fun k _ q => .inr (.inr q))))
  intro W7 hto
  have hT7 := (unhide HT6).disk (unhide HP6).dat hto.out
  obtain ⟨vw1, hP7, hO7, hn7⟩ := (unhide HP6).disk hto (unhide HOK).1 (unhide HOK).2
  have hv7 : Uls W7 (.slice q1 ul cap1) p.use := owns_only (unhide HV6) hto.out (fun k hk e => by
    obtain ⟨cs, t, q, ht⟩ := (unhide HP6).dat.kind k e
    obtain ⟨cs2, q2⟩ := owns_lt (unhide HV6) k hk
    rw [q2] at q
    cases q
    rcases ht with h | h | h <;> exact absurd h (by decide))
  have hOn7 : Only (POf P D vw vl (.slice q1 ul cap1)) w W7 := (unhide HO6).trans hto.out (fun k _ q => .inr (.inr q))
  have hn7' : ∀ k, vw1.ownBlock = some k → vw.ownBlock = some k ∨ w.heap.size ≤ k := fun k hk => (hn7 k hk).imp id (fun q => Nat.le_trans (unhide HO6).size q)
  have HT7 := hide hT7
  have HP7 := hide hP7
  have HV7 := hide hv7
  have HO7 := hide hOn7
  have HN7 := hide hn7'
  clear hT7 hP7 hO7 hn7 hv7 hOn7 hn7' hto HT6 HP6 HV6 HT5 HP5 HU5 HB5 C4
  simp only [Act.put, List.setIfInBounds_toArray, List.set_cons_succ, List.set_cons_zero]
  -- what is left once an error stands in the cell
  have BAD : ∀ (W : World) (ee : Int) (d9 : Ds) (vw9 : Value), (ee != 0) = true → PD P D d9 { p with h := x, use := ua } vw9 vl (.slice q2 ul2 cap2) W → Tb P x p.h (.slice q1 ul cap1) w.heap.size (w.heap.size + 1) (w.heap.size + 2) ca cb ee W → Uls W (.slice q1 ul cap1) p.use → p.use.length = d9.last.length →
      CallsD Tryz.prog 193 #[ptr (w.heap.size + 2), ptr ca, ptr cb, ptr w.heap.size] .returning W fun e u' w' => u' = .returning ∧ e = .returned (.tuple #[]) ∧ PD P D d9 { p with doubt := true } vw9 vl (.slice q1 ul cap1) w' ∧ Only (fun k => k = P) W w' ∧ w'.cell? ⟨w.heap.size + 2, 0, none⟩ = some (I ee) := by
    intro W ee d9 vw9 hne hP hT hv hl
    refine (fin_bad (w.heap.size + 2) ca cb w.heap.size .returning W ee hne (cell_of_row _ _ 0 _ 35 (0, 0) hT.x8) p.h q1 ul cap1 hT.x9 (cell_of_row _ _ 0 _ 168 (0, 0) hT.x10) (cell_of_row _ _ 0 _ 57 (0, 0) hT.x4) hP).mono ?_
    rintro e u' w'' ⟨rfl, rfl, rfl⟩
    obtain ⟨r1, r2⟩ := hP.back p.h (.slice q1 ul cap1) p.use hv hl
    exact ⟨rfl, rfl, r1, r2, cell_of_row _ _ 0 _ 35 (0, 0) ((r2.block _ (lt_of_row hT.x8) (ne_type hT.x8 hP.blk (by decide))).trans hT.x8)⟩
  have HBAD := hide BAD
  clear BAD
  have HLP := hide (unhide HD).len
  by_cases he : e1 = 0
  · subst he
    go_upto_region 7 with fail
    refine turn_r7 (D := D) (d := d1) (d1 := d2) (vw := vw1) (vl := vl) w.heap.size (w.heap.size + 1) (w.heap.size + 2) W7 { p with h := x, use := ua } x e2 (by kernel_rfl) (by kernel_rfl) (by kernel_rfl) _ (by show 46 ≤ Array.size _; simp) rfl rfl rfl (unhide HT7).x4 (unhide HT7).x6 (unhide HT7).x8 (unhide HP7).blk (unhide HP7).dat ?_ ?_
    · intro W hb
      exact unhide C7 W vw1 ((unhide HP7).dat.below hb)
    intro W8 W9 hto hW9 hz8
    have hT8 := (unhide HT7).disk (unhide HP7).dat hto.out
    obtain ⟨vw2, hP8, hO8, hn8⟩ := (unhide HP7).disk hto (unhide HOK2).1 (unhide HOK2).2
    have hv8 : Uls W8 (.slice q1 ul cap1) p.use := owns_only (unhide HV7) hto.out (fun k hk e => by
      obtain ⟨cs, t, q, ht⟩ := (unhide HP7).dat.kind k e
      obtain ⟨cs2, q2⟩ := owns_lt (unhide HV7) k hk
      rw [q2] at q
      cases q
      rcases ht with h | h | h <;> exact absurd h (by decide))
    have hT9 : Tb P x p.h (.slice q1 ul cap1) w.heap.size (w.heap.size + 1) (w.heap.size + 2) ca cb e2 W9 := by rw [hW9]; exact hT8.row8
    have o9 : Only (fun k => k = w.heap.size + 2) W8 W9 := by rw [hW9]; exact setRow_Only _ _ _
    have hP9 : PD P D d2 { p with h := x, use := ua } vw2 vl (.slice q2 ul2 cap2) W9 := hP8.only o9 (fun k hk e => by
      rcases hk with hk | hk | hk
      · rw [← e, hk, hP8.blk] at hz8
        cases hz8
      · obtain ⟨cs, q⟩ := owns_lt hP8.us k hk
        rw [e, hz8] at q
        cases q
      · obtain ⟨cs, t, q, ht⟩ := hP8.dat.kind k hk
        rw [e, hz8] at q
        cases q
        rcases ht with h | h | h <;> exact absurd h (by decide))
    have hv9 : Uls W9 (.slice q1 ul cap1) p.use := owns_only hv8 o9 (fun k hk e => by
      obtain ⟨cs, q⟩ := owns_lt hv8 k hk
      rw [e, hz8] at q
      cases q)
    have hOn9 : Only (POf P D vw vl (.slice q1 ul cap1)) w W9 := by
      refine ((unhide HO7).trans hto.out (fun k hk q => ?_)).trans o9 (fun k hk q => absurd q (by omega))
      rcases q with q | q | q
      · exact .inr (.inr (.inl q))
      · rcases unhide HN7 k q with r | r
        · exact .inr (.inr (.inr (.inl r)))
        · omega
      · exact .inr (.inr (.inr (.inr q)))
    have hn9 : ∀ k, vw2.ownBlock = some k → vw.ownBlock = some k ∨ w.heap.size ≤ k := fun k hk => by
      rcases hn8 k hk with q | q
      · exact unhide HN7 k q
      · exact .inr (Nat.le_trans (unhide HO7).size q)
    have hl9 : p.use.length = d2.last.length := by
      have := unhide HLP
      have h1 := (unhide HOK).2
      have h2 := (unhide HOK2).2
      omega
    have HP9 := hide hP9
    have HT9 := hide hT9
    have HV9 := hide hv9
    have HO9 := hide hOn9
    have HN9 := hide hn9
    have HL9 := hide hl9
    clear hP8 hO8 hn8 hv8 hT9 o9 hP9 hv9 hOn9 hn9 hl9 hT8 hto hz8 hW9 HT7 HP7 HV7 HO7 HN7 C7
    simp only [Act.put, List.setIfInBounds_toArray, List.set_cons_succ, List.set_cons_zero]
    go_wp2
    refine leaves_cons (f := 193) (args := #[ptr (w.heap.size + 2), ptr ca, ptr cb, ptr w.heap.size]) (by simp) (by simp [go_sem]) ?_
    by_cases he2 : e2 = 0
    · subst he2
      refine (fin_ok (w.heap.size + 2) ca cb w.heap.size .returning W9 (cell_of_row _ _ 0 _ 35 (0, 0) (unhide HT9).x8)).mono ?_
      rintro e u' w'' ⟨rfl, rfl, rfl⟩
      refine ⟨_, results_c1s Tryz.results131 _ _ (w.heap.size + 2) (I 0) (by rfl) (cell_of_row _ _ 0 _ 35 (0, 0) (unhide HT9).x8), by rw [unhide HV]; simp, unhide HTT _ ?_⟩
      exact ⟨vw2, .slice q2 ul2 cap2, by simpa using unhide HP9, unhide HO9, unhide HN9, .inr rfl⟩
    · refine (unhide HBAD W9 e2 d2 vw2 (by simpa using he2) (unhide HP9) (unhide HT9) (unhide HV9) (unhide HL9)).mono ?_
      rintro e u' w'' ⟨rfl, rfl, r1, r2, r3⟩
      refine ⟨_, results_c1s Tryz.results131 _ _ (w.heap.size + 2) (I e2) (by rfl) r3, by rw [unhide HV]; simp, unhide HTT _ ?_⟩
      exact ⟨vw2, .slice q1 ul cap1, by simpa [he2] using r1, (unhide HO9).trans r2 (fun k _ q => .inl q), unhide HN9, .inl rfl⟩
  · have hne : (e1 != 0) = true := by simpa using he
    have HE := hide he
    clear he
    have hT7 := unhide HT7
    have c8 := cell_of_row _ _ 0 _ 35 (0, 0) hT7.x8
    have f8 := frz hT7.x8 0
    have hW8 : W7.setCell ⟨w.heap.size + 1 + 1, 0, none⟩ (I e1) = W7.setRow (w.heap.size + 2) #[I e1] := setCell_eq_setRow W7 (w.heap.size + 2) 0 _ _ _ (I e1) hT7.x8
    have HW8 := hide hW8
    clear hT7 hW8
    go_wp2
    rw [unhide HW8]
    have hT8 := unhide HT7
    have hP8 := unhide HP7
    have hv8 := unhide HV7
    have hz8 := hT8.x8
    have hT9 : Tb P x p.h (.slice q1 ul cap1) w.heap.size (w.heap.size + 1) (w.heap.size + 2) ca cb e1 (W7.setRow (w.heap.size + 2) #[I e1]) := hT8.row8
    have o9 : Only (fun k => k = w.heap.size + 2) W7 (W7.setRow (w.heap.size + 2) #[I e1]) := setRow_Only _ _ _
    have hP9 : PD P D d1 { p with h := x, use := ua } vw1 vl (.slice q2 ul2 cap2) (W7.setRow (w.heap.size + 2) #[I e1]) := hP8.only o9 (fun k hk e => by
      rcases hk with hk | hk | hk
      · rw [← e, hk, hP8.blk] at hz8
        cases hz8
      · obtain ⟨cs, q⟩ := owns_lt hP8.us k hk
        rw [e, hz8] at q
        cases q
      · obtain ⟨cs, t, q, ht⟩ := hP8.dat.kind k hk
        rw [e, hz8] at q
        cases q
        rcases ht with h | h | h <;> exact absurd h (by decide))
    have hv9 : Uls (W7.setRow (w.heap.size + 2) #[I e1]) (.slice q1 ul cap1) p.use := owns_only hv8 o9 (fun k hk e => by
      obtain ⟨cs, q⟩ := owns_lt hv8 k hk
      rw [e, hz8] at q
      cases q)
    have hOn9 : Only (POf P D vw vl (.slice q1 ul cap1)) w (W7.setRow (w.heap.size + 2) #[I e1]) := (unhide HO7).trans o9 (fun k hk q => absurd q (by omega))
    have hl9 : p.use.length = d1.last.length := by
      have := unhide HLP
      have h1 := (unhide HOK).2
      omega
    have he := unhide HE
    refine leaves_cons (f := 193) (args := #[ptr (w.heap.size + 2), ptr ca, ptr cb, ptr w.heap.size]) (by simp) (by simp [go_sem]) ?_
    refine (unhide HBAD _ e1 d1 vw1 hne hP9 hT9 hv9 hl9).mono ?_
    rintro e u' w'' ⟨rfl, rfl, r1, r2, r3⟩
    refine ⟨_, results_c1s Tryz.results131 _ _ (w.heap.size + 2) (I e1) (by rfl) r3, by rw [unhide HV, if_pos he], unhide HTT _ ?_⟩
    exact ⟨vw1, .slice q1 ul cap1, by simpa [he] using r1, hOn9.trans r2 (fun k _ q => .inl q), unhide HN7, .inl rfl⟩
end Go.Proofs.YtjopnhhdemfniaaGreatDoor
