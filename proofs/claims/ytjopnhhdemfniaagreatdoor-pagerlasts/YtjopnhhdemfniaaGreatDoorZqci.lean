import Derived.Test.YtjopnhhdemfniaaGreatDoorZrgpn
import Derived.Test.YtjopnhhdemfniaaGreatDoorQch
import Derived.Test.YtjopnhhdemfniaaGreatDoorZpic
/- The law's state.is: true of a pager that has this state. -/
namespace Go.Proofs.YtjopnhhdemfniaaGreatDoor
open Go.RowKit
set_option maxHeartbeats 8000000
set_option maxRecDepth 8000
theorem sorted_ext : ∀ a b : List Int, a.Pairwise (· < ·) → b.Pairwise (· < ·) → (∀ z, z ∈ a ↔ z ∈ b) → a = b
  | [], [], _, _, _ => rfl
  | [], y :: b, _, _, h => absurd ((h y).2 (List.mem_cons_self ..)) (by simp)
  | x :: a, [], _, _, h => absurd ((h x).1 (List.mem_cons_self ..)) (by simp)
  | x :: a, y :: b, ha, hb, h => by
    rw [List.pairwise_cons] at ha hb
    have hxy : x = y := by
      have h1 := (h x).1 (List.mem_cons_self ..)
      have h2 := (h y).2 (List.mem_cons_self ..)
      rcases List.mem_cons.1 h1 with e | e
      · exact e
      · rcases List.mem_cons.1 h2 with e2 | e2
        · exact e2.symm
        · have q1 := hb.1 x e
          have q2 := ha.1 y e2
          omega
    subst hxy
    rw [sorted_ext a b ha.2 hb.2 (fun z => ?_)]
    have := h z
    simp only [List.mem_cons] at this
    constructor
    · intro q
      rcases this.1 (.inr q) with e | e
      · have := ha.1 z q; omega
      · exact e
    · intro q
      rcases this.2 (.inr q) with e | e
      · have := hb.1 z q; omega
      · exact e
variable {m : Nat} {gen root : Int} {ps : List Pg} {l : List Pn} {last : List Bs} {p : Pr} {P D : Nat} {vw vl vu : Value}
theorem Hds.reached (h : Hds m gen root ps l last p) : sel p.use rcb = ps.map Pg.number := by
  have e : sel p.use rcb = ((List.range m).filter (fun n => decide (2 ≤ n) && mem ps n)).map fun n : Nat => (n : Int) := by
    unfold sel selk
    rw [h.ul]
    congr 1
    apply List.filter_congr
    intro n hn
    rw [h.use n (List.mem_range.1 hn), uw_rcb]
  rw [e]
  refine sorted_ext _ _ ?_ (List.pairwise_map.2 h.srt) (fun z => ?_)
  · rw [List.pairwise_map]
    exact ((List.pairwise_lt_range).sublist List.filter_sublist).imp (fun q => by omega)
  · rw [List.mem_map, List.mem_map]
    constructor
    · rintro ⟨n, hn, rfl⟩
      obtain ⟨_, q⟩ := List.mem_filter.1 hn
      rw [Bool.and_eq_true] at q
      obtain ⟨x, hx, ex⟩ := mem_iff.1 q.2
      exact ⟨x, hx, ex⟩
    · rintro ⟨x, hx, rfl⟩
      have hq := h.pg x (.inl hx)
      refine ⟨x.number.toNat, List.mem_filter.2 ⟨List.mem_range.2 (by omega), ?_⟩, by omega⟩
      rw [Bool.and_eq_true]
      exact ⟨by simp; omega, mem_iff.2 ⟨x, hx, by omega⟩⟩
theorem range2 : ∀ m, ((List.range m).filter (fun n => decide (2 ≤ n))).length = m - 2
  | 0 => rfl
  | m + 1 => by
    rw [List.range_succ, List.filter_append, List.length_append, range2 m]
    by_cases q : 2 ≤ m
    · simp [q]; omega
    · simp [q]; omega
theorem Hds.nfree (h : Hds m gen root ps [] last p) : (sel p.use frb).length + ps.length = m - 2 := by
  have e1 : ps.length = ((List.range m).filter (fun n => decide (2 ≤ n) && mem ps n)).length := by
    have := congrArg List.length h.reached
    rw [List.length_map] at this
    rw [← this]
    unfold sel selk
    rw [h.ul, List.length_map]
    congr 1
    apply List.filter_congr
    intro n hn
    rw [h.use n (List.mem_range.1 hn), uw_rcb]
  have e2 : (sel p.use frb).length = ((List.range m).filter (fun n => decide (2 ≤ n) && !mem ps n)).length := by
    rw [h.free]
    unfold fre
    rw [List.length_map]
    congr 1
    apply List.filter_congr
    intro n _
    rw [usd_nil]
  rw [e1, e2]
  have : ∀ L : List Nat, (L.filter (fun n => decide (2 ≤ n) && !mem ps n)).length + (L.filter (fun n => decide (2 ≤ n) && mem ps n)).length = (L.filter (fun n => decide (2 ≤ n))).length := by
    intro L
    induction L with
    | nil => rfl
    | cons x L ih =>
      cases a : decide (2 ≤ x) <;> cases b : mem ps x <;> simp [a, b] at ih ⊢ <;> omega
  rw [this, range2]
theorem Hds.nheld (h : Hds m gen root ps [] last p) : (sel p.use hdb).length = 0 := by
  rw [h.held, h.hdl, List.length_map]
  have : ((List.range m).filter fun n => !mem ps n && pan [] n) = [] := by
    rw [List.filter_eq_nil_iff]
    intro n _
    simp [pan, pbn]
  rw [this]
  rfl
/-- An alive disk with nothing pending. -/
def Av (last : List Bs) (f a : Int) : Ds := ⟨[], last, f, false, a⟩
theorem Hds.askA (h : Hds m gen root ps l last p) (f a : Int) : p.ask (Av last f a) = p := h.ask a
theorem Hds.readA (h : Hds m gen root ps l last p) {W : World} {f a : Int} (hD : PD P D (Av last f a) p vw vl vu W) (x : Pg) (hx : x ∈ ps ∨ ∃ y ∈ l, x ∈ y.2) :
    Calls Tryz.prog 53 #[ptr P, I x.number] W fun e w' => ∃ q cap, e = .returned (.tuple #[pga x q cap, I 0]) ∧ Ins w' q x.links.length x.links ∧ PD P D (Av last f a) p vw vl vu w' ∧ Only (fun k => k = P) W w' := by
  have hb := (h.pg x hx).2.2.1
  have hm := h.m8.2
  have := readP_any hD x.number (by omega)
  rw [show rdp (Av last f a) p x.number = rdp (Lv [] last a) p x.number from rfl, h.rd a x hx, h.askA] at this
  refine this.mono ?_
  rintro e w' ⟨⟨q, cap, rfl, r, _, o⟩, hp⟩
  exact ⟨q, cap, rfl, ins_of r, hp, o⟩
end Go.Proofs.YtjopnhhdemfniaaGreatDoor
/- The law's state.is. -/
namespace Go.Proofs.YtjopnhhdemfniaaGreatDoor
open Go.RowKit
set_option maxHeartbeats 16000000
set_option maxRecDepth 8000
variable {m : Nat} {gen root : Int} {ps : List Pg} {last : List Bs} {p : Pr} {P D : Nat} {vw vl vu : Value}
theorem is_any (h : Hds m gen root ps [] last p) (nt : Bs) (hnt : p.h.note = nt) (hnl : nt.length = 16) (f a : Int) (q : Option Addr) (c : Nat) (w : World) (hD : PD P D (Av last f a) p vw vl vu w) (hF : Frm (fun k => k = P) w (fun W => Pgs W q ps.length ps)) (hps : ps.length ≤ 4096) :
    Calls Tryz.prog 41 #[.agg #[I gen, I root, S nt, .slice q ps.length c], ptr P, I (m : Int)] w fun e w' => e = .returned (.bool true) ∧ PD P D (Av last f a) p vw vl vu w' ∧ Only (fun k => k = P) w w' := by
  have hg0 := heap_alloc_new w (.cells #[I gen, I root, S nt, .slice q ps.length c] 83)
  have b1 := (Below.refl w.heap.size w).alloc (Nat.le_refl _) (.cells #[I gen, I root, S nt, .slice q ps.length c] 83)
  have hm8 := h.m8
  have hlen : (Av last f a).last.length = m := h.dl
  have HRE := hide (reached_any (hD.below b1) (by rw [h.hb, hlen]))
  rw [h.reached] at HRE
  have HX := hide hg0
  have HDA := hide (hD.below b1)
  have HFA := hide (hF.below b1)
  have HOA := hide (Only.of_below (P := fun k => k = P) b1)
  have hPX := hD.lt
  have HH := hide h
  have HNT := hide hnt
  have HRD := hide (fun (W : World) (hD : PD P D (Av last f a) p vw vl vu W) (x : Pg) (hx : x ∈ ps ∨ ∃ y ∈ ([] : List Pn), x ∈ y.2) => h.readA hD x hx)
  clear hg0 b1 hD hF h hnt hlen
  generalize hWA : w.alloc (.cells #[I gen, I root, S nt, .slice q ps.length c] 83) = WA at *
  have HWA := hide hWA
  go_enter Tryz.func41, Tryz.ntmps41
  go_wp2_with fail
  clear hWA
  refine (unhide HRE).mono ?_
  rintro e w1 ⟨V, rfl, ⟨rV, nV⟩, bV⟩
  rw [List.length_map] at rV
  obtain ⟨X, hXe⟩ : ∃ X, X = w.heap.size := ⟨_, rfl⟩
  rw [← hXe] at HX hPX ⊢
  have HXE := hide hXe
  clear hXe HRE
  have h1 := (bV.block X (lt_of_row (unhide HX))).trans (unhide HX)
  have x3 := cell_of_row _ _ 3 _ 83 (0, 0) h1
  have xl := lt_of_row h1
  have HX1 := hide h1
  obtain ⟨qv, cv, rfl⟩ := owns_form rV
  have HRV := hide rV
  have HNU := hide (numbers_any q ps.length c ps w1 ((unhide HFA) w1 (Only.of_below bV)) (by omega))
  have HD1 := hide ((unhide HDA).below bV)
  have HO1 := hide (Only.of_below (P := fun k => k = P) bV)
  clear h1 rV bV nV
  go_wp2_with fail
  refine (unhide HNU).mono ?_
  rintro e w2 ⟨V2, rfl, r2, n2, b2⟩
  obtain ⟨q2, c2, rfl⟩ := owns_form r2
  have hI1 : Ins w2 qv ps.length (ps.map Pg.number) := by
    have := owns_below (unhide HRV) b2
    have e : (ps.map Pg.number).length = ps.length := List.length_map ..
    rw [← e] at this ⊢
    exact ins_of this
  have hI2 : Ins w2 q2 ps.length (ps.map Pg.number) := by
    have e : (ps.map Pg.number).length = ps.length := List.length_map ..
    rw [← e] at r2 ⊢
    exact ins_of r2
  have HIN := hide (ints_any qv q2 ps.length ps.length cv c2 _ _ w2 hI1 hI2 (by omega) (by omega))
  rw [decide_eq_true rfl] at HIN
  have HD2 := hide ((unhide HD1).below b2)
  have HO2 := hide ((unhide HO1).trans (Only.of_below (P := fun k => k = P) b2) (fun _ _ e => e))
  have HX2 := hide ((b2.block X (lt_of_row (unhide HX1))).trans (unhide HX1))
  clear hI1 hI2 r2 n2 b2 HNU HRV HD1 HO1 HX1 x3 xl
  go_wp2_with fail
  refine (unhide HIN).mono ?_
  rintro e w3 ⟨rfl, b3⟩
  have HD3 := hide ((unhide HD2).below b3)
  have HO3 := hide ((unhide HO2).trans (Only.of_below (P := fun k => k = P) b3) (fun _ _ e => e))
  have HX3 := hide ((b3.block X (lt_of_row (unhide HX2))).trans (unhide HX2))
  have hnf := (unhide HH).nfree
  have hnh := (unhide HH).nheld
  have HNF := hide hnf
  have HNH := hide hnh
  have hps2 : ps.length + 2 ≤ m := by omega
  clear b3 HIN HD2 HO2 HX2 hnf hnh
  go_upto_region 3 with fail
  refine ris3 X P ps.length cv m qv gen root ⟨nt.toArray⟩ (by kernel_rfl) (by kernel_rfl) (by kernel_rfl) _ _ (by show 68 ≤ Array.size _; simp) rfl rfl rfl rfl rfl (fun _ _ W => Below w3.heap.size w3 W) ⟨(), (Below.refl _ _).drew⟩ ?_ ?_ ?_ ?_ ?_ ?_ ?_ ?_ ?_ ?_ ?_ ?_ ?_ ?_ ?_ ?_ ?_ ?_ ?_ ?_
  · exact fun _ _ _ _ _ h => h
  · intro _ _ W hW _ _
    have hd := (unhide HD3).below hW
    refine (generation_any hd).mono ?_
    rintro e w' ⟨rfl, rfl⟩
    exact ⟨(), fun _ _ => rfl, by rw [(unhide HH).hg]; rfl, hW⟩
  · intro _ _ W hW _ _
    exact s_ld Tryz.isAgg3 (cell_of_row _ _ 0 _ 83 (0, 0) ((hW.block _ (lt_of_row (unhide HX3))).trans (unhide HX3)))
  · exact fun W => s_neq _ _ gen
  · intro _ _ W hW _ _
    have hd := (unhide HD3).below hW
    refine (root_any hd).mono ?_
    rintro e w' ⟨rfl, rfl⟩
    exact ⟨(), fun _ _ => rfl, by rw [(unhide HH).hr]; rfl, hW⟩
  · intro _ _ W hW _ _
    exact s_ld Tryz.isAgg3 (cell_of_row _ _ 1 _ 83 (0, 0) ((hW.block _ (lt_of_row (unhide HX3))).trans (unhide HX3)))
  · exact fun W => s_neq _ _ root
  · intro _ _ W hW _ _
    have hd := (unhide HD3).below hW
    refine (note_any hd (by rw [unhide HNT, hnl]; omega)).mono ?_
    rintro e w' ⟨rfl, hb⟩
    exact ⟨(), fun _ _ => rfl, by rw [unhide HNT]; rfl, hW.trans (hb.mono hW.size)⟩
  · intro _ _ W hW _ _
    exact s_ld Tryz.isAgg9 (cell_of_row _ _ 2 _ 83 (0, 0) ((hW.block _ (lt_of_row (unhide HX3))).trans (unhide HX3)))
  · exact fun W => s_neS _ _ nt
  · intro _ _ W hW _ _
    have hd := (unhide HD3).below hW
    refine (sizeP_any hd).mono ?_
    rintro e w' ⟨rfl, rfl⟩
    exact ⟨(), fun _ _ => rfl, by rw [(unhide HH).hb]; rfl, hW⟩
  · exact fun W => s_neq _ _ (m : Int)
  · intro _ _ W hW _ _
    have hd := (unhide HD3).below hW
    refine (doubt_any hd).mono ?_
    rintro e w' ⟨rfl, rfl⟩
    exact ⟨(), fun _ _ => rfl, by rw [(unhide HH).db]; rfl, hW⟩
  · intro _ _ W hW _ _
    have hd := (unhide HD3).below hW
    refine (held_any hd).mono ?_
    rintro e w' ⟨rfl, rfl⟩
    exact ⟨(), fun _ _ => rfl, by rw [unhide HNH]; rfl, hW⟩
  · exact fun W => s_neq _ _ 0
  · intro _ _ W hW _ _
    have hd := (unhide HD3).below hW
    refine (free_any hd).mono ?_
    rintro e w' ⟨rfl, rfl⟩
    refine ⟨(), fun _ _ => rfl, ?_, hW⟩
    have e1 : ((sel p.use frb).length : Int) = (m : Int) - 2 - (ps.length : Int) := by have := unhide HNF; omega
    rw [e1]
    rfl
  · exact fun W => s_sub _ _ _ _ (by omega) (by omega)
  · exact fun W => s_sub _ _ _ _ (by omega) (by omega)
  · exact fun W => s_neq _ _ _
  intro _ _ W4 _ hW4
  have HD4 := hide ((unhide HD3).below hW4)
  have HO4 := hide ((unhide HO3).trans (Only.of_below (P := fun k => k = P) hW4) (fun _ _ e => e))
  clear hW4 HD3 HO3 HX3 HNF HNH
  simp only [Act.put, List.setIfInBounds_toArray, List.set_cons_succ, List.set_cons_zero]
  go_wp2
  go_loopw [9] (fun i wr => ∃ k : Nat, k ≤ ps.length ∧ i = .int .i64 k ∧ PD P D (Av last f a) p vw vl vu wr ∧ Only (fun k => k = P) WA wr) (fun i _ => ps.length - (Go.RowKit.intOf i).toNat)
  case atStart => exact ⟨0, by omega, rfl, unhide HD4, unhide HO4⟩
  case round =>
    obtain ⟨k, hk, rfl, hD, ho⟩ := hrel
    have hxr := (ho.block X (lt_of_row (unhide HX)) (by omega)).trans (unhide HX)
    have x3 := cell_of_row _ _ 3 _ 83 (0, 0) hxr
    have hxl := lt_of_row hxr
    have HXR := hide hxr
    clear hxr
    by_cases hkl : k < ps.length
    · have hkl' : (k : Int) < (ps.length : Int) := by omega
      obtain ⟨g2, o2, q2', c2', eq2, hg2, d0, d1, d2, d3, d4, hi2⟩ := ((unhide HFA) wr ho).at hkl
      subst eq2
      have hin : ps.getD k noPg ∈ ps ∨ ∃ y ∈ ([] : List Pn), ps.getD k noPg ∈ y.2 := .inl (getD_in ps noPg k hkl)
      have HRX := hide (unhide HRD wr hD _ hin)
      have hxlk := (unhide HH).links _ hin
      generalize hxk : ps.getD k noPg = x at *
      have HXK := hide hxk
      have HO := hide ho
      clear hD ho hi2 hxk hin
      go_wp2_with fail
      refine (unhide HRX).mono ?_
      rintro e w1' ⟨q9, c9, rfl, i9, hD9, o9⟩
      unfold pga
      obtain ⟨f1, g1⟩ := box_fill w1' x.kind x.number x.birth q9 x.links.length c9 x.body
      have HA1 := hide (heap_alloc_new w1' (.cells #[I 0, I 0, I 0, .slice none 0 0, .string ⟨#[]⟩] 24))
      have HG1 := hide g1
      have HI9 := hide (i9.below f1)
      have HD9 := hide (hD9.below f1)
      have HO9 := hide (((unhide HO).trans o9 (fun _ _ q => q)).trans (Only.of_below (P := fun k => k = P) f1) (fun _ _ q => q))
      clear f1 g1 i9 hD9 o9 d0 d1 d2 d3 d4 hg2 HRX HO x3 hxl HXR
      go_upto_region 9 with (refine wp_st24 rfl (.tmp 10) (.tmp 84) rfl w1'.heap.size (by rfl) x.kind x.number x.birth q9 x.links.length c9 x.body (by rfl) _ rfl (unhide HA1) ?_; generalize (w1'.alloc (.cells #[I 0, I 0, I 0, .slice none 0 0, .string ⟨#[]⟩] 24)).setRow w1'.heap.size #[I x.kind, I x.number, I x.birth, .slice q9 x.links.length c9, S x.body] = w1b at *)
      obtain ⟨g2', o2', q2'', c2'', ea, hg2, d0, d1, d2, d3, d4, hi2⟩ := ((unhide HFA) w1b (unhide HO9)).at hkl
      cases ea
      rw [unhide HXK] at d0 d1 d2 d3 d4 hi2
      have hxr := ((unhide HO9).block X (lt_of_row (unhide HX)) (by omega)).trans (unhide HX)
      have HXR := hide hxr
      have HC := hide (And.intro d0 (And.intro d1 (And.intro d2 (And.intro d3 d4))))
      have HI2 := hide hi2
      have HGG := hide hg2
      clear d0 d1 d2 d3 d4 hi2 hg2 hxr
      refine ris9 w1'.heap.size X g2 o2 ps.length c k (pga x q9 c9) (pga x q2'' c2'') (by kernel_rfl) (by kernel_rfl) (by kernel_rfl) _ _ (by show 93 ≤ Array.size _; simp) rfl rfl rfl (fun _ _ W => Below w1b.heap.size w1b W) ⟨(), (Below.refl _ _).drew⟩ ?_ ?_ ?_ ?_ ?_ ?_ ?_
      · exact fun _ _ _ _ _ h => h
      · intro _ _ W hW _
        exact s_ldr Tryz.isAgg24 Tryz.sizeOf24 ((hW.block _ (lt_of_row (unhide HG1))).trans (unhide HG1)) [I x.kind, I x.number, I x.birth, .slice q9 x.links.length c9, S x.body] rfl rfl
      · intro _ _ W hW _ _
        exact s_ld Tryz.isAgg27 (cell_of_row _ _ 3 _ 83 (0, 0) ((hW.block _ (lt_of_row (unhide HXR))).trans (unhide HXR)))
      · exact fun W => s_x27 g2 o2 ps.length c k hkl
      · intro _ _ W hW _ _
        obtain ⟨d0, d1, d2, d3, d4⟩ := unhide HC
        have hg2 := unhide HGG
        exact s_l24 ((hW.cell hg2).trans d0) ((hW.cell hg2).trans d1) ((hW.cell hg2).trans d2) ((hW.cell hg2).trans d3) ((hW.cell hg2).trans d4)
      · intro _ L W hW _ _ _
        refine (samePage_any x x q9 q2'' c9 c2'' W ((unhide HI9).below hW) ((unhide HI2).below hW) (by omega) (by omega)).mono ?_
        rintro e W' ⟨rfl, hb⟩
        exact ⟨(), fun _ _ => rfl, by rw [smp_self]; rfl, hW.trans (hb.mono hW.size)⟩
      intro _ _ W _ hW
      have HDW := hide ((unhide HD9).below hW)
      have HOW := hide ((unhide HO9).trans (Only.of_below (P := fun k => k = P) hW) (fun _ _ q => q))
      clear hW HI9 HG1 HD9 HO9 HA1 HC HI2 HGG
      simp only [Act.put, List.setIfInBounds_toArray, List.set_cons_succ, List.set_cons_zero]
      unfold pga
      go_wp2
      go_round
      case measure => simp [Go.RowKit.intOf] <;> omega
      case rel =>
        refine ⟨_, _, _, _, _, _, _, _, _, _, _, _, _, _, _, _, _, _, _, _, _, _, _, _, _, _, _, _, _, _, _, _, _, _, _, _, ⟨k + 1, by omega, ?_, unhide HDW, unhide HOW⟩, rfl⟩
        simp
    · have hkl' : ¬ (k : Int) < (ps.length : Int) := by omega
      have HF := hide (And.intro hD ((unhide HOA).trans ho (fun _ _ e => e)))
      clear hD ho
      go_wp2
      go_ret
      exact ⟨rfl, (unhide HF).1, (unhide HF).2⟩
end Go.Proofs.YtjopnhhdemfniaaGreatDoor
/- What the law keeps of pending writes, and the crash. -/
namespace Go.Proofs.YtjopnhhdemfniaaGreatDoor
open Go.RowKit
set_option maxHeartbeats 8000000
set_option maxRecDepth 8000
def kl (s : Nat) : List Nat → List Kp
  | [] => []
  | x :: xs => ((s : Int), (x : Int)) :: kl (s + 1) xs
theorem kl_len (s : Nat) (xs : List Nat) : (kl s xs).length = xs.length := by
  induction xs generalizing s with
  | nil => rfl
  | cons x xs ih => simp [kl, ih]
theorem kl_snoc (s : Nat) (xs : List Nat) (x : Nat) : kl s (xs ++ [x]) = kl s xs ++ [(((s + xs.length : Nat) : Int), (x : Int))] := by
  induction xs generalizing s with
  | nil => simp [kl]
  | cons y xs ih => simp only [List.cons_append, kl, ih, List.length_cons]; rw [show s + 1 + xs.length = s + (xs.length + 1) by omega]
theorem stps_kl : ∀ (xs : List Nat) (s : Nat) (st : St), s + xs.length ≤ st.length → (∀ i, s ≤ i → st.getD i none = none) → (∀ x ∈ xs, x < 256) → (∀ i, (st.getD i none).getD 0 < 256) → ∃ st', stps st (kl s xs) = some st' ∧ ∀ i, (st'.getD i none).getD 0 < 256
  | [], s, st, _, _, _, h => ⟨st, rfl, h⟩
  | x :: xs, s, st, hl, hn, hx, h => by
    have hx0 := hx x (List.mem_cons_self ..)
    simp only [List.length_cons] at hl
    have e : stp st ((s : Int), (x : Int)) = some (st.set s (some x)) := by
      have h0 := hn s (Nat.le_refl _)
      unfold stp isS
      simp only [Int.toNat_natCast, h0]
      rw [if_neg (by omega), if_neg (by omega), if_neg (by simp), if_neg (by simp; omega)]
    have hg : ∀ i, (st.set s (some x)).getD i none = if i = s then some x else st.getD i none := fun i => by
      rw [List.getD_eq_getElem?_getD, List.getD_eq_getElem?_getD]
      by_cases q : i = s
      · subst q
        simp [show i < st.length by omega]
      · simp [q, List.getElem?_set_ne (Ne.symm q)]
    obtain ⟨st', e1, e2⟩ := stps_kl xs (s + 1) (st.set s (some x)) (by rw [List.length_set]; omega) (fun i hi => by rw [hg, if_neg (by omega)]; exact hn i (by omega)) (fun y hy => hx y (List.mem_cons_of_mem _ hy)) (fun i => by
      rw [hg]
      split
      · exact hx0
      · exact h i)
    refine ⟨st', ?_, e2⟩
    simp only [kl, stps, e]
    exact e1
/-- The keeps that the law makes. -/
def kps (_nw : Nat) (l : List Int) (k : Nat) : List Kp := kl 0 ((List.range k).map fun i => pkv (l.getD i 0) 256)
theorem kps_ok (nw : Nat) (l : List Int) (k : Nat) (hk : k ≤ nw) : ∃ st, stps (List.replicate nw none) (kps nw l k) = some st ∧ ∀ i, (st.getD i none).getD 0 < 256 := by
  refine stps_kl _ 0 _ (by simp; omega) (fun i _ => ?_) (fun x hx => ?_) (fun i => ?_)
  · rw [List.getD_eq_getElem?_getD, List.getElem?_replicate]
    split <;> rfl
  · obtain ⟨i, _, rfl⟩ := List.mem_map.1 hx
    exact pkv_lt _ 256 (by omega)
  · rw [List.getD_eq_getElem?_getD, List.getElem?_replicate]
    split <;> simp
def cellsK (l : List Kp) : List Value := l.flatMap fun x => [I x.1, I x.2]
theorem cellsK_get (L : List Kp) (j i : Nat) (hj : j < L.length) (hi : i < 2) : (cellsK L)[j * 2 + i]? = ([I L[j].1, I L[j].2] : List Value)[i]? := by
  induction L generalizing j with
  | nil => simp at hj
  | cons x L ih =>
    have e : cellsK (x :: L) = [I x.1, I x.2] ++ cellsK L := rfl
    rw [e]
    cases j with
    | zero => rw [Nat.zero_mul, Nat.zero_add, List.getElem?_append_left (by simp; omega)]; rfl
    | succ j =>
      rw [List.getElem?_append_right (by simp; omega)]
      simp only [List.length_cons, List.length_nil]
      rw [show (j + 1) * 2 + i - (0 + 1 + 1) = j * 2 + i by omega, ih j (by simpa using hj)]
      rfl
theorem kls_of {W : World} {a : Option Addr} {n cap : Nat} {L : List Kp} (h : W.ownsRow 0 167 2 (.slice a n cap) L.length (cellsK L)) : Kls W a n L := by
  obtain ⟨q, c, e⟩ := owns_form h
  injection e with e1 e2 e3
  subst e2
  refine ⟨rfl, fun h0 => ?_⟩
  obtain ⟨g, cap', cur, e, _⟩ := owns_at h h0
  injection e with e1 e2 e3
  subst e1
  refine ⟨g, 0, rfl, fun j hj => ?_⟩
  have hc := fun i u => World.ownsRow.cells h (g := g) rfl (j * 2 + i) u
  have e0 : L.getD j (0, 0) = L[j] := by simp [hj]
  constructor
  · have := hc 0 (I L[j].1) (by rw [cellsK_get _ _ _ hj (by omega)]; rfl)
    rw [add_at] at this
    rw [e0, Nat.zero_add]
    exact this
  · have := hc 1 (I L[j].2) (by rw [cellsK_get _ _ _ hj (by omega)]; rfl)
    rw [add_at] at this
    rw [e0, Nat.zero_add]
    exact this
theorem info167p : (Tryz.prog.info? 167).map (fun i => (i.zero, i.size, i.bytes)) = some (some (.agg #[I 0, I 0]), 2, 16) := by kernel_rfl
theorem kept2_any {D : Nat} {d : Ds} {vw vl : Value} {w : World} (h : DAt D d vw vl w) (ho : Ok d) (a : Option Addr) (n cap : Nat) (l : List Int) (hI : Ins w a n l) (hb : ∀ z ∈ l, -9223372036854775808 ≤ z ∧ z ≤ 9223372036854775807) :
    Calls Tryz.prog 38 #[ptr D, .slice a n cap] w fun e w' => ∃ V k, e = .returned V ∧ k ≤ d.ws.length ∧ w'.ownsRow 0 167 2 V (kps d.ws.length l k).length (cellsK (kps d.ws.length l k)) ∧ (∀ b, V.ownBlock = some b → w.heap.size ≤ b) ∧ Below w.heap.size w w' := by
  have HP := hide (pending_any h ho)
  have hwl : d.ws.length ≤ 4096 := by
    have h1 := ho.len
    by_cases q : d.ws.length = 0
    · omega
    · have := ho.srt.ge (d.ws.length - 1) (by omega)
      have h2 := (ho.lt _ (mem_getD (z := (0, [])) (show d.ws.length - 1 < d.ws.length by omega))).1
      omega
  have hln := hI.1
  have HLN := hide hln
  have HI := hide hI
  have HBD := hide hb
  generalize d.ws.length = nw at *
  clear h ho hI hb hln
  go_enter Tryz.func38, Tryz.ntmps38
  go_wp2_with fail
  refine (unhide HP).mono ?_
  rintro e w1 ⟨V, rfl, rV, nV, bV⟩
  obtain ⟨qv, cv, rfl⟩ := owns_form rV
  have HB1 := hide bV
  clear rV nV bV HP
  go_wp2
  go_loopw [5, 7] (fun v i wr => ∃ k : Nat, k ≤ nw ∧ k ≤ n ∧ i = .int .i64 k ∧ wr.ownsRow 0 167 2 v (kps nw l k).length (cellsK (kps nw l k)) ∧ (∀ b, v.ownBlock = some b → w1.heap.size ≤ b) ∧ Below w1.heap.size w1 wr) (fun _ i _ => nw - (Go.RowKit.intOf i).toNat)
  case atStart => exact ⟨0, by omega, by omega, rfl, owns_nil _ _ _, (fun _ q => nomatch q), Below.refl _ _⟩
  case round =>
    obtain ⟨k, hk, hkn, rfl, r, nv, b⟩ := hrel
    by_cases h1 : k < nw
    · by_cases h2 : k < n
      · have hk1 : (k : Int) < (nw : Int) := by omega
        have hk2 : (k : Int) < (n : Int) := by omega
        obtain ⟨ga, oa, ea, hga, hca⟩ := (((unhide HI).below (unhide HB1)).below b).at h2
        subst ea
        have hbd := unhide HBD _ (getD_in l 0 k (by have := unhide HLN; omega))
        have HPK := hide (pick_any (l.getD k 0) 256 wr (by omega) (by omega) hbd.1 hbd.2)
        have hkl : kps nw l (k + 1) = kps nw l k ++ [((k : Int), (pkv (l.getD k 0) 256 : Int))] := by
          unfold kps
          rw [List.range_succ, List.map_append]
          simp only [List.map_cons, List.map_nil]
          rw [kl_snoc]
          simp
        have hlen : (kps nw l k).length = k := by unfold kps; rw [kl_len]; simp
        have HKL := hide hkl
        generalize pkv (l.getD k 0) 256 = pk at *
        generalize l.getD k 0 = z at *
        rw [hlen] at r
        obtain ⟨pv, cap', rfl⟩ := owns_form r
        have HR := hide r
        have HNV := hide nv
        have HB := hide b
        have HLE := hide hlen
        clear r nv b hkl hlen hbd
        go_wp2_with (first | (refine (unhide HPK).mono ?_; rintro e wa ⟨rfl, hwa⟩; rw [hwa]; clear hwa) | (at_builtin; refine push_own 78 167 _ 2 16 Tryz.underlying78 info167p rfl (by decide) rfl (.tmp 22) (.tmp 30) rfl (.slice pv k cap') k _ (by rfl) wr (unhide HR) [I (k : Int), I (pk : Int)] rfl (by simp [Value.oneCell']) (by rfl) (by omega) (by omega) ?_))
        intro p2 c2 w2 r2 o2 n2
        have HF := hide (show w2.ownsRow 0 167 2 (.slice p2 (k + 1) c2) (kps nw l (k + 1)).length (cellsK (kps nw l (k + 1))) ∧ (∀ b, (Value.slice p2 (k + 1) c2).ownBlock = some b → w1.heap.size ≤ b) ∧ Below w1.heap.size w1 w2 by
          have hB := unhide HB
          refine ⟨?_, fun b hb => ?_, o2.below hB hB.size (fun k hk => unhide HNV k hk)⟩
          · rw [unhide HKL, List.length_append, unhide HLE]
            have e : cellsK (kps nw l k ++ [((k : Int), (pk : Int))]) = cellsK (kps nw l k) ++ [I (k : Int), I (pk : Int)] := by simp [cellsK]
            rw [e]
            exact r2
          · rcases n2 b hb with e | e
            · exact unhide HNV b e
            · have := hB.size; omega)
        clear r2 o2 n2 hca hga
        go_wp2
        go_round
        case measure => simp [Go.RowKit.intOf] <;> omega
        case rel => exact ⟨k + 1, by omega, by omega, by simp, (unhide HF).1, (unhide HF).2.1, (unhide HF).2.2⟩
      · have hk1 : (k : Int) < (nw : Int) := by omega
        have hk2 : ¬ (k : Int) < (n : Int) := by omega
        have HF := hide (And.intro r (And.intro nv b))
        clear r nv b
        go_wp2
        go_ret
        exact ⟨_, rfl, k, hk, (unhide HF).1, fun b hb => Nat.le_trans (unhide HB1).size ((unhide HF).2.1 b hb), (unhide HB1).trans ((unhide HF).2.2.mono (unhide HB1).size)⟩
    · have hk1 : ¬ (k : Int) < (nw : Int) := by omega
      have HF := hide (And.intro r (And.intro nv b))
      clear r nv b
      go_wp2
      go_ret
      exact ⟨_, rfl, k, hk, (unhide HF).1, fun b hb => Nat.le_trans (unhide HB1).size ((unhide HF).2.1 b hb), (unhide HB1).trans ((unhide HF).2.2.mono (unhide HB1).size)⟩
/-- The crash behind it. -/
theorem crashK_any {D : Nat} {d : Ds} {vw vl : Value} {w : World} (h : DAt D d vw vl w) (ho : Ok d) (V : Value) (l : List Int) (k : Nat) (hk : k ≤ d.ws.length) (hr : w.ownsRow 0 167 2 V (kps d.ws.length l k).length (cellsK (kps d.ws.length l k))) :
    Calls Tryz.prog 37 #[ptr D, V] w fun e w' => e = .returned (I 0) ∧ ∃ vw' st, DAt D ⟨[], crs d.last d.ws st d.ws.length, 0, false, d.acts⟩ vw' vl w' ∧ Only (fun k => k = D ∨ vl.ownBlock = some k) w w' ∧ (∀ k, vw'.ownBlock = some k → vw.ownBlock = some k) := by
  obtain ⟨st, e1, e2⟩ := kps_ok d.ws.length l k hk
  obtain ⟨a, c, rfl⟩ := owns_form hr
  have hl : (kps d.ws.length l k).length = k := by unfold kps; rw [kl_len]; simp
  have hwl : d.ws.length ≤ 4096 := by
    have h1 := ho.len
    by_cases q : d.ws.length = 0
    · omega
    · have := ho.srt.ge (d.ws.length - 1) (by omega)
      have h2 := (ho.lt _ (mem_getD (z := (0, [])) (show d.ws.length - 1 < d.ws.length by omega))).1
      omega
  have key := crash_any h ho a _ c (kps d.ws.length l k) (kls_of hr) (by omega) (fun st' e => by rw [e1] at e; cases e; exact e2)
  have e3 : crashv d (kps d.ws.length l k) = 0 := by unfold crashv; rw [e1]; rfl
  have e4 : d.crash (kps d.ws.length l k) = ⟨[], crs d.last d.ws st d.ws.length, 0, false, d.acts⟩ := by unfold Ds.crash; rw [e1]
  rw [e3, e4] at key
  refine key.mono ?_
  rintro e w' ⟨rfl, vw', h1, h2, h3⟩
  exact ⟨rfl, vw', st, h1, h2, h3⟩
end Go.Proofs.YtjopnhhdemfniaaGreatDoor
