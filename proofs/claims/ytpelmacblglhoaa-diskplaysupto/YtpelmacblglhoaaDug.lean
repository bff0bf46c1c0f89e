import Derived.Test.YtpelmacblglhoaaDuf
import Derived.Test.YtpelmacblglhoaaRgrc
namespace Go.Proofs.Ytpelmacblglhoaa
open Go.RowKit
set_option maxHeartbeats 4000000
set_option maxRecDepth 8000
def Rd.pend (r : Rd) : List Wr := pndR r r.l.length
def crashr (r : Rd) (l : List Kp) : Int := if (stps (List.replicate r.pend.length none) l).isSome then 0 else 82
def Rd.crash (r : Rd) (l : List Kp) : Rd := match stps (List.replicate r.pend.length none) l with
  | none => r
  | some st => { r with l := crs r.l r.pend st r.pend.length, is := syI r r.l.length, left := 0, dead := false }
section
variable {X : Nat} {r : Rd} {vl vi vp : Value} {w W W' : World} {V : Value} {P : List Wr} {a : Option Addr} {n : Nat} {l : List Kp} {st : St}
theorem Kls.only {Q : Nat → Prop} (h : Kls w a n l) (ho : Only Q w W) (hq : ∀ p o, a = some ⟨p, o, none⟩ → 0 < n → ¬ Q p) : Kls W a n l := by
  refine ⟨h.1, fun hn => ?_⟩
  obtain ⟨p, o, e, hc⟩ := h.2 hn
  refine ⟨p, o, e, fun j hj => ?_⟩
  have hb := ho.block p (blk_lt (hc j hj).1) (hq p o e hn)
  exact ⟨(World.cell?_of_block hb).trans (hc j hj).1, (World.cell?_of_block hb).trans (hc j hj).2⟩
/-- Between two keeps. -/
structure C2 (w : World) (X : Nat) (r : Rd) (vl vi vp V : Value) (P : List Wr) (a : Option Addr) (n : Nat) (l : List Kp) (st : St) (W : World) : Prop where
  rat : RAt X { r with l := crs r.l P st P.length } vl vi vp W
  row : W.ownsRow 0 69 2 V P.length (cellsW P)
  kls : Kls W a n l
  onl : Only (OfR X vl vi vp) w W
theorem C2.below (h : C2 w X r vl vi vp V P a n l st W) (b : Below W.heap.size W W') : C2 w X r vl vi vp V P a n l st W' :=
  ⟨h.rat.below b, owns_below h.row b, h.kls.below b, h.onl.trans (Only.of_below (P := OfR X vl vi vp) b) (fun _ _ q => q)⟩
theorem C2.step {g c m x s : Nat} (h : C2 w X r (.slice (some ⟨g, 0, none⟩) m c) vi vp V P a n l st W) (hm : m = r.l.length) (hV : ∀ k, V.ownBlock = some k → w.heap.size ≤ k) (hg : g < w.heap.size)
    (hka : ∀ p o, a = some ⟨p, o, none⟩ → 0 < n → ¬ OfR X (.slice (some ⟨g, 0, none⟩) m c) vi vp p)
    (hs : Srt P) (hl : ∀ x ∈ P, x.1 < r.l.length) (hz : ∀ x ∈ r.l, x.length = 512) (hx : x < P.length) (hn : st.length = P.length) (h0 : st.getD x none = none) :
    C2 w X r (.slice (some ⟨g, 0, none⟩) m c) vi vp V P a n l (st.set x (some s)) (W.setCell ⟨g, (P.getD x (0, [])).1, none⟩ (S (tornv ((crs r.l P st P.length).getD (P.getD x (0, [])).1 []) (P.getD x (0, [])).2 s))) := by
  have e1 := h.rat.setL (hm.trans (crs_len _ _ _ _).symm) (P.getD x (0, [])).1 (tornv ((crs r.l P st P.length).getD (P.getD x (0, [])).1 []) (P.getD x (0, [])).2 s)
  simp only at e1
  rw [crs_step r.l P st x s hs hl hz hx hn h0] at e1
  have oc := Only.setCell W ⟨g, (P.getD x (0, [])).1, none⟩ (S (tornv ((crs r.l P st P.length).getD (P.getD x (0, [])).1 []) (P.getD x (0, [])).2 s))
  refine ⟨e1, owns_only h.row oc (fun k hk q => ?_), h.kls.only oc (fun p o e hn q => ?_), h.onl.put _ _ (.inl (.inr (.inl rfl)))⟩
  · have := hV k hk
    have q' : k = g := q
    omega
  · exact hka p o e hn (.inr (.inl (by rw [show p = g from q]; rfl)))
theorem stp_some {st : St} {x : Kp} (h : stp st x ≠ none) : ∃ i m : Nat, x = ((i : Int), (m : Int)) ∧ i < st.length ∧ st.getD i none = none ∧ m < 256 ∧ stp st x = some (st.set i (some m)) := by
  obtain ⟨x1, x2⟩ := x
  unfold stp at h ⊢
  simp only at h ⊢
  split at h
  · exact absurd rfl h
  split at h
  · exact absurd rfl h
  split at h
  · exact absurd rfl h
  split at h
  · exact absurd rfl h
  rename_i g1 g2 g3 g4
  have g5 : isS x2 = true := by simpa using g4
  obtain ⟨g6, g7⟩ : 0 ≤ x2 ∧ x2 < 256 := by simpa [isS] using g5
  refine ⟨x1.toNat, x2.toNat, by rw [Int.toNat_of_nonneg (by omega), Int.toNat_of_nonneg g6], by omega, ?_, by omega, ?_⟩
  · cases q : st.getD x1.toNat none with
    | none => rfl
    | some z => rw [q] at g3; exact absurd rfl g3
  · rw [if_neg g1, if_neg g2, if_neg g3, if_neg g4]
theorem C2.cells {g c m x : Nat} (h : C2 w X r (.slice (some ⟨g, 0, none⟩) m c) vi vp V P a n l st W) (hx : x < r.l.length) : W.cell? ⟨X, 0, none⟩ = some (.slice (some ⟨g, 0, none⟩) m c) ∧ W.cell? ⟨g, x, none⟩ = some (S ((crs r.l P st P.length).getD x [])) ∧ W.frozen? ⟨g, x, none⟩ = false := by
  have hn : (crs r.l P st P.length).length = r.l.length := crs_len _ _ _ _
  obtain ⟨gl', cl', gi', ci', gp', cp', q1, q2, q3, t1, t2, t3, z1, z2, z3⟩ := h.rat.at x (by show x < (crs r.l P st P.length).length; rw [hn]; exact hx)
  cases q1
  exact ⟨h.rat.c.1, t1, z1⟩
/-- The document's Crash. -/
theorem rCrash_any (h : RAt X r vl vi vp w) (h8 : 8 ≤ r.l.length) (hm : r.l.length ≤ 4096) (hz : ∀ x ∈ r.l, x.length = 512) (hzp : ∀ x ∈ r.pend, x.2.length = 512) (cap : Nat) (hp : Kls w a n l) (hn : n ≤ 1000000000000)
    (hka : ∀ p o, a = some ⟨p, o, none⟩ → 0 < n → ¬ OfR X vl vi vp p) :
    Calls Try.prog 59 #[ptr X, .slice a n cap] w fun e w' => e = .returned (I (crashr r l)) ∧ RAt X (r.crash l) vl vi vp w' ∧ Only (OfR X vl vi vp) w w' := by
  have hN := hp.1
  subst hN
  have H := hide h
  have h1 := rPending_any h h8 hm
  have hpl : r.pend.length ≤ 4096 := Nat.le_trans (pndR_le r _) hm
  have hs : Srt r.pend := pndR_srt r r.l.length
  have hL : ∀ x ∈ r.pend, x.1 < r.l.length := pndR_lt r r.l.length
  have hl := h.lt
  have HI := hide h.len.1
  obtain ⟨gl, cl, gi, ci, gp, cp, rfl, rfl, rfl, -⟩ := h.at 0 (by omega)
  have hgl : gl < w.heap.size := h.old gl (.inr (.inl rfl))
  rw [show pndR r r.l.length = r.pend from rfl] at h1
  have HF1 := hide (show stps (List.replicate r.pend.length none) l = none → crashr r l = 82 ∧ r.crash l = r from fun e => by simp [crashr, Rd.crash, e])
  have HF2 := hide (show ∀ st, stps (List.replicate r.pend.length none) l = some st → crashr r l = 0 ∧ r.crash l = { r with l := crs r.l r.pend st r.pend.length, is := syI r r.l.length, left := 0, dead := false } from fun st e => by simp [crashr, Rd.crash, e])
  generalize r.pend = P at *
  have HZ := hide (And.intro hz hzp)
  have HP := hide hp
  have HKA := hide hka
  have H1 := hide h1
  have HS := hide hs
  have HL := hide hL
  clear h hz hzp hp hka h1 hs hL
  go_enter Try.func59, Try.ntmps59
  go_wp2_with fail
  refine (unhide H1).mono ?_
  clear H1
  rintro e w1 ⟨V, rfl, hV, hVn, b1⟩
  obtain ⟨pv, cv, rfl⟩ := owns_form hV
  have HC := hide (show C2 w X r (.slice (some ⟨gl, 0, none⟩) r.l.length cl) (.slice (some ⟨gi, 0, none⟩) r.l.length ci) (.slice (some ⟨gp, 0, none⟩) r.l.length cp) (.slice pv P.length cv) P a l.length l (List.replicate P.length none) w1 from ⟨by
    rw [crs_zero _ _ _ (unhide HS) (unhide HL) (unhide HZ).1]
    exact (unhide H).below b1, hV, (unhide HP).below b1, Only.of_below b1⟩)
  have HVn := hide hVn
  have hl1 : X < w1.heap.size := Nat.lt_of_lt_of_le hl b1.size
  clear hV b1 hVn
  go_wp2
  go_loopw [6] (fun i wr => ∃ (k : Nat) (st : St), k ≤ l.length ∧ i = .int .i64 k ∧ stps (List.replicate P.length none) (l.take k) = some st ∧ Below w1.heap.size w1 wr) (fun i _ => l.length - (Go.RowKit.intOf i).toNat)
  case atStart => exact ⟨0, _, by omega, rfl, rfl, Below.refl _ _⟩
  case round =>
    obtain ⟨k, st, hk, rfl, hst, hb⟩ := hrel
    by_cases hlt : k < l.length
    · have hc1 := (unhide HC).below hb
      obtain ⟨g, o, ea, hpl', q0, q1⟩ := hc1.kls.at hlt
      have hlt' : (k : Int) < (l.length : Int) := by omega
      have hnx := stps_next (List.replicate P.length none) l k hlt
      rw [hst] at hnx
      simp only at hnx
      have hbd := fun e => stps_bad (List.replicate P.length none) l (k + 1) e
      have HNm := hide (stps_named P.length l k hk st hst)
      have hlen := stps_len _ _ _ hst
      generalize hxk : l.getD k (0, 0) = x at *
      have HXK := hide hxk
      obtain ⟨x1, x2⟩ := x
      simp only at q0 q1
      have HO := hide hc1.onl
      have HR := hide (unhide H)
      have HB := hide hb
      have HCo := hide hc1
      have HBd := hide (fun e => unhide HF1 (hbd e))
      have HNx := hide hnx
      have HRW := hide (show RAt X r (.slice (some ⟨gl, 0, none⟩) r.l.length cl) (.slice (some ⟨gi, 0, none⟩) r.l.length ci) (.slice (some ⟨gp, 0, none⟩) r.l.length cp) wr by
        have := hc1.rat
        rwa [crs_zero _ _ _ (unhide HS) (unhide HL) (unhide HZ).1] at this)
      have HEA := hide ea
      subst ea
      clear hbd hnx hst hb hc1 hxk
      unfold stp at HNx
      simp only at HNx
      by_cases t1 : x1 < 0
      · rw [if_pos t1] at HNx
        have HE := hide (unhide HBd (unhide HNx))
        go_wp2
        go_ret
        rw [(unhide HE).1, (unhide HE).2]
        exact ⟨rfl, unhide HRW, unhide HO⟩
      · rw [if_neg t1, hlen] at HNx
        have t1' : decide (x1 < 0) = false := by simpa using t1
        by_cases t2 : (P.length : Int) ≤ x1
        · rw [if_pos t2] at HNx
          have HE := hide (unhide HBd (unhide HNx))
          go_wp2
          go_ret
          rw [(unhide HE).1, (unhide HE).2]
          exact ⟨rfl, unhide HRW, unhide HO⟩
        · rw [if_neg t2] at HNx
          have t2' : decide ((P.length : Int) ≤ x1) = false := by simpa using t2
          obtain ⟨i, rfl⟩ : ∃ i : Nat, x1 = (i : Int) := ⟨x1.toNat, by omega⟩
          simp only [Int.toNat_natCast] at HNx
          by_cases t5 : x2 < 0
          · have t6 : isS x2 = false := by simp [isS]; omega
            have HE := hide (unhide HBd (by rw [unhide HNx, t6]; simp))
            go_wp2
            go_ret
            rw [(unhide HE).1, (unhide HE).2]
            exact ⟨rfl, unhide HRW, unhide HO⟩
          · have t5' : decide (x2 < 0) = false := by simpa using t5
            by_cases t7 : 255 < x2
            · have t6 : isS x2 = false := by simp [isS]; omega
              have HE := hide (unhide HBd (by rw [unhide HNx, t6]; simp))
              go_wp2
              go_ret
              rw [(unhide HE).1, (unhide HE).2]
              exact ⟨rfl, unhide HRW, unhide HO⟩
            · have t7' : decide (255 < x2) = false := by simpa using t7
              have t6 : isS x2 = true := by simp [isS]; omega
              go_wp2
              go_loopw [7] (fun y wq => ∃ j : Nat, j ≤ k ∧ y = .int .i64 j ∧ (∀ t, t < j → (l.getD t (0, 0)).1 ≠ (i : Int)) ∧ Below w1.heap.size w1 wq) (fun y _ => k - (Go.RowKit.intOf y).toNat)
              case atStart => exact ⟨0, by omega, rfl, fun t ht => by omega, unhide HB⟩
              case round =>
                obtain ⟨j, hj, rfl, hno, hb2⟩ := hrel
                have hc2 := (unhide HC).below hb2
                have HC2 := hide hc2
                have HNo := hide hno
                have HB2 := hide hb2
                by_cases hjk : j < k
                · have hjk' : (j : Int) < (k : Int) := by omega
                  obtain ⟨g2, o2, ea2, hpl2, u0, u1⟩ := hc2.kls.at (show j < l.length by omega)
                  cases ea2
                  obtain ⟨g3, o3, ea3, hpl3, y0, y1⟩ := hc2.kls.at hlt
                  cases ea3
                  rw [unhide HXK] at y0 y1
                  simp only at y0 y1
                  have hjl : (j : Int) < (l.length : Int) := by omega
                  generalize hv : (l.getD j (0, 0)).1 = v at *
                  have HV := hide hv
                  clear hc2 hno hb2 hv u1 y1
                  by_cases hvi : v = (i : Int)
                  · have HE := hide (unhide HBd (by rw [unhide HNx, if_pos ((unhide HNm i).2 ⟨by omega, j, hjk, by rw [unhide HV, hvi]⟩)]))
                    have hvi' : (v == (i : Int)) = true := by simpa using hvi
                    subst hvi
                    go_wp2
                    go_region
                    go_wp2
                    go_ret
                    rw [(unhide HE).1, (unhide HE).2]
                    have hr2 := (unhide HC2).rat
                    rw [crs_zero _ _ _ (unhide HS) (unhide HL) (unhide HZ).1] at hr2
                    exact ⟨rfl, hr2.below (Below.refl _ _).drew, (unhide HC2).onl.drawn⟩
                  · have hvi' : (v == (i : Int)) = false := by simpa using hvi
                    have HNo2 := hide (show ∀ t, t < j + 1 → (l.getD t (0, 0)).1 ≠ (i : Int) from fun t ht => by
                      rcases Nat.lt_or_eq_of_le (Nat.le_of_lt_succ ht) with q | q
                      · exact unhide HNo t q
                      · subst q; rw [unhide HV]; exact hvi)
                    have HB3 := hide (below_drew (unhide HB2))
                    clear hvi
                    go_wp2
                    go_region
                    go_wp2
                    refine ⟨⟨j + 1, by omega, by go_num, unhide HNo2, unhide HB3⟩, ?_⟩
                    simp [Go.RowKit.intOf]; omega
                · have hjk' : ¬ (j : Int) < (k : Int) := by omega
                  have hjd : j = k := by omega
                  have hnone : st.getD i none = none := by
                    cases hq : st.getD i none with
                    | none => rfl
                    | some z =>
                      exfalso
                      obtain ⟨_, t, ht, he⟩ := (unhide HNm i).1 (by rw [hq]; rfl)
                      exact hno t (by omega) he
                  have HNx2 := hide (show stps (List.replicate P.length none) (l.take (k + 1)) = some (st.set i (some x2.toNat)) by
                    rw [unhide HNx, hnone, t6]; simp)
                  clear hc2 hno hb2 hnone
                  go_wp2
                  refine ⟨⟨k + 1, _, by omega, by go_num, unhide HNx2, unhide HB2⟩, ?_⟩
                  simp [Go.RowKit.intOf]; omega
    · have hlt' : ¬ (k : Int) < (l.length : Int) := by omega
      obtain rfl : k = l.length := by omega
      rw [List.take_of_length_le (Nat.le_refl _)] at hst
      have HF := hide (unhide HF2 st hst)
      have HST := hide hst
      have HC1 := hide ((unhide HC).below hb)
      clear hst hb HC HF1 HF2
      go_wp2
      go_loopw [8] (fun i wr => ∃ (k : Nat) (s2 : St), k ≤ l.length ∧ i = .int .i64 k ∧ stps (List.replicate P.length none) (l.take k) = some s2 ∧ C2 w X r (.slice (some ⟨gl, 0, none⟩) r.l.length cl) (.slice (some ⟨gi, 0, none⟩) r.l.length ci) (.slice (some ⟨gp, 0, none⟩) r.l.length cp) (.slice pv P.length cv) P a l.length l s2 wr) (fun i _ => l.length - (Go.RowKit.intOf i).toNat)
      case atStart => exact ⟨0, _, by omega, rfl, rfl, unhide HC1⟩
      case round =>
        clear HC1
        obtain ⟨k, s2, hk, rfl, hs2, hc⟩ := hrel
        by_cases hlt : k < l.length
        · have hlt' : (k : Int) < (l.length : Int) := by omega
          have hnx := stps_next (List.replicate P.length none) l k hlt
          rw [hs2] at hnx
          simp only at hnx
          have hsome : stp s2 (l.getD k (0, 0)) ≠ none := fun e => by
            rw [e] at hnx
            have := stps_bad _ l (k + 1) hnx
            rw [unhide HST] at this
            cases this
          obtain ⟨i, m, ex, hi, hno, hm6, est⟩ := stp_some hsome
          rw [est] at hnx
          have hslen := stps_len _ _ _ hs2
          obtain ⟨ga, oa, ea, hpa, q0, q1⟩ := hc.kls.at hlt
          rw [ex] at q0 q1
          simp only at q0 q1
          subst ea
          obtain ⟨gv, cv', cur9, e9, hq9, _⟩ := owns_at hc.row (by omega)
          cases e9
          have z := cellsW_at P i (by omega)
          have z0 := owns_cell hc.row _ _ z.1
          have z1 := owns_cell hc.row _ _ z.2
          have hz9 := lt_of_row hq9
          have hxl := unhide HL _ (mem_getD (z := (0, [])) (show i < P.length by omega))
          have hx2 := (unhide HZ).2 _ (mem_getD (z := (0, [])) (show i < P.length by omega))
          have hll : ((crs r.l P s2 P.length).getD (P.getD i (0, [])).1 []).length = 512 := crs_sz s2 (unhide HZ).1 (fun x hx => ⟨unhide HL x hx, (unhide HZ).2 x hx⟩) P.length (Nat.le_refl _) _ (mem_getD (by rw [crs_len]; exact hxl))
          have HStep := hide (fun (W' : World) (b : Below wr.heap.size wr W') => (hc.below b).step (x := i) (s := m) rfl (unhide HVn) hgl (unhide HKA) (unhide HS) (unhide HL) (unhide HZ).1 (by omega) hslen hno)
          have HCell := hide (fun (W' : World) (b : Below wr.heap.size wr W') => (hc.below b).cells hxl)
          have HKl := hide (fun (W' : World) (b : Below wr.heap.size wr W') => (b.cell (p := ⟨ga, oa + k * 2 + 1, none⟩) hpa).trans q1)
          have HNx := hide hnx
          have hip : (i : Int) < (P.length : Int) := by omega
          have hX := hc.rat.lt
          clear hc z hq9 hnx hsome est hno hs2 hslen
          generalize (crs r.l P s2 P.length).getD (P.getD i (0, [])).1 [] = la at *
          generalize P.getD i (0, []) = x at *
          obtain ⟨x1, x2⟩ := x
          simp only at z0 z1 hxl hx2 hll HCell HStep
          have hx1' : (x1 : Int) < (r.l.length : Int) := by omega
          have ba := (Below.refl wr.heap.size wr).alloc (Nat.le_refl _) (.cells #[I x1, S x2] 69)
          have hz := heap_alloc_new wr (.cells #[I x1, S x2] 69)
          have HT := hide (fun W => kept_any la x2 m W hll hx2 hm6)
          have HAl := hide (And.intro (below_drew ba) hz)
          clear ba hz
          generalize tornv la x2 m = tv at *
          go_wp2
          refine rrc X gl r.l.length cl wr.heap.size ga oa l.length cap k x1 m la x2 tv rfl rfl rfl _ _ (show 104 ≤ 125 from by decide) rfl rfl rfl rfl (fun L W => (L 23 = true → L 3 = true ∧ L 5 = true ∧ L 9 = true ∧ L 11 = true ∧ L 13 = true ∧ L 15 = true ∧ L 20 = true ∧ L 21 = true) ∧ W = (if L 23 then (wr.alloc (.cells #[I x1, S x2] 69)).drew.setCell ⟨gl, 0 + x1, none⟩ (S tv) else (wr.alloc (.cells #[I x1, S x2] 69)).drew)) ?_ ?_ hxl hlt hxl ?_ ?_ ?_ ?_ ?_ ?_ ?_ ?_ ?_ ?_
          · exact ⟨(fun h => by cases h), rfl⟩
          · rintro i hi L W ⟨q1, q4⟩
            have h22 : i ≠ 23 := by rintro rfl; simp at hi
            have e22 : upd L i 23 = L 23 := by simp [upd, Ne.symm h22]
            refine ⟨fun h => ?_, by rw [e22]; exact q4⟩
            rw [e22] at h
            have := q1 h
            simp only [upd]
            refine ⟨?_, ?_, ?_, ?_, ?_, ?_, ?_, ?_⟩ <;> split <;> simp_all
          · rintro L W ⟨q1, q4⟩ hL
            have h22 : L 23 = false := Bool.eq_false_iff.2 (fun h => by have := (q1 h).1; rw [hL] at this; cases this)
            rw [h22] at q4
            simp only [Bool.false_eq_true, if_false] at q4
            rw [q4]
            exact (unhide HCell _ (unhide HAl).1).1
          · rintro L W ⟨q1, q4⟩ hL
            have h22 : L 23 = false := Bool.eq_false_iff.2 (fun h => by have := (q1 h).2.1; rw [hL] at this; cases this)
            rw [h22] at q4
            simp only [Bool.false_eq_true, if_false] at q4
            rw [q4]
            exact cell_of_row _ _ 0 _ 69 (0, 0) (unhide HAl).2
          · rintro L W ⟨q1, q4⟩ hL
            have h22 : L 23 = false := Bool.eq_false_iff.2 (fun h => by have := (q1 h).2.2.1; rw [hL] at this; cases this)
            rw [h22] at q4
            simp only [Bool.false_eq_true, if_false] at q4
            rw [q4]
            exact (unhide HCell _ (unhide HAl).1).1
          · rintro L W ⟨q1, q4⟩ hL
            have h22 : L 23 = false := Bool.eq_false_iff.2 (fun h => by have := (q1 h).2.2.2.1; rw [hL] at this; cases this)
            rw [h22] at q4
            simp only [Bool.false_eq_true, if_false] at q4
            rw [q4]
            exact cell_of_row _ _ 0 _ 69 (0, 0) (unhide HAl).2
          · rintro L W ⟨q1, q4⟩ hL
            have h22 : L 23 = false := Bool.eq_false_iff.2 (fun h => by have := (q1 h).2.2.2.2.1; rw [hL] at this; cases this)
            rw [h22] at q4
            simp only [Bool.false_eq_true, if_false] at q4
            rw [q4, Nat.zero_add]
            exact (unhide HCell _ (unhide HAl).1).2.1
          · rintro L W ⟨q1, q4⟩ hL
            have h22 : L 23 = false := Bool.eq_false_iff.2 (fun h => by have := (q1 h).2.2.2.2.2.1; rw [hL] at this; cases this)
            rw [h22] at q4
            simp only [Bool.false_eq_true, if_false] at q4
            rw [q4]
            exact cell_of_row _ _ 1 _ 69 (0, 0) (unhide HAl).2
          · rintro L W ⟨q1, q4⟩ hL
            have h22 : L 23 = false := Bool.eq_false_iff.2 (fun h => by have := (q1 h).2.2.2.2.2.2.1; rw [hL] at this; cases this)
            rw [h22] at q4
            simp only [Bool.false_eq_true, if_false] at q4
            rw [q4]
            exact unhide HKl _ (unhide HAl).1
          · rintro L W ⟨q1, q4⟩ hL
            refine (unhide HT W).mono ?_
            rintro e w' ⟨rfl, rfl⟩
            have h22 : L 23 = false := Bool.eq_false_iff.2 (fun h => by have := (q1 h).2.2.2.2.2.2.2; rw [hL] at this; cases this)
            have e22 : upd L 21 23 = false := by simp [upd, h22]
            rw [h22] at q4
            refine ⟨rfl, fun h => ?_, ?_⟩
            · rw [e22] at h
              cases h
            · rw [e22]
              exact q4
          · rintro L W ⟨q1, q4⟩ hL f20 f21 f3 f5 f9 f11 f13 f15 f19
            rw [hL] at q4
            simp only [Bool.false_eq_true, if_false] at q4
            obtain ⟨t0, t1, t2⟩ := unhide HCell _ (unhide HAl).1
            refine ⟨⟨fun _ => by simp [upd, f3, f5, f9, f11, f13, f15, f19, f20], by rw [q4]; simp [upd]⟩, ⟨_, by rw [Nat.zero_add, q4]; exact t1⟩, by rw [Nat.zero_add, q4]; exact t2⟩
          · rintro L W hall ⟨q1, q4⟩
            rw [hall 23 (by omega)] at q4
            simp only [if_true] at q4
            rw [Nat.zero_add] at q4
            have HN := hide (unhide HStep _ (unhide HAl).1)
            rw [← q4] at HN
            clear q1 q4
            simp only [Act.put, List.setIfInBounds_toArray, List.set_cons_succ, List.set_cons_zero]
            go_wp2
            refine ⟨⟨k + 1, _, by omega, by go_num, unhide HNx, unhide HN⟩, ?_⟩
            simp [Go.RowKit.intOf]; omega
        · have hlt' : ¬ (k : Int) < (l.length : Int) := by omega
          obtain rfl : k = l.length := by omega
          rw [List.take_of_length_le (Nat.le_refl _), unhide HST] at hs2
          cases hs2
          have HK := hide (And.intro hc.rat hc.onl)
          clear hc
          generalize hrr : ({ r with l := crs r.l P st P.length } : Rd) = rr at *
          have HRR := hide hrr
          have HLn := hide (show rr.l.length = r.l.length by rw [← hrr]; exact crs_len _ _ _ _)
          have HIs := hide (show rr.is = r.is by rw [← hrr])
          clear hrr
          generalize hx : r.l.length = x at *
          have HX := hide hx
          clear hx
          go_wp2
          go_loopw [10] (fun i wr => ∃ (k : Nat), k ≤ x ∧ i = .int .i64 k ∧ RAt X { rr with is := syI r k } (.slice (some ⟨gl, 0, none⟩) x cl) (.slice (some ⟨gi, 0, none⟩) x ci) (.slice (some ⟨gp, 0, none⟩) x cp) wr ∧ Only (OfR X (.slice (some ⟨gl, 0, none⟩) x cl) (.slice (some ⟨gi, 0, none⟩) x ci) (.slice (some ⟨gp, 0, none⟩) x cp)) w wr) (fun i _ => x - (Go.RowKit.intOf i).toNat)
          case atStart => exact ⟨0, by omega, rfl, by rw [syI_zero, ← unhide HIs]; exact (unhide HK).1, (unhide HK).2⟩
          case round =>
            clear HK
            obtain ⟨k, hk, rfl, hr, ho⟩ := hrel
            obtain ⟨d0, d1, d2, d3, d4, -⟩ := hr.c
            have hlr := hr.lt
            by_cases hlt : k < x
            · have hlt' : (k : Int) < (x : Int) := by omega
              obtain ⟨gl', cl', gi', ci', gp', cp', q1, q2, q3, t1, t2, t3, z1, z2, z3⟩ := hr.at k (by show k < rr.l.length; rw [unhide HLn]; exact hlt)
              have hq : ({ rr with is := syI r k } : Rd).l.length = x := unhide HLn
              rw [hq] at q1 q2 q3
              cases q1
              cases q2
              cases q3
              have s1 := hr.setI hq.symm k false
              have HN := hide (show RAt X { rr with is := syI r (k + 1) } (.slice (some ⟨gl, 0, none⟩) x cl) (.slice (some ⟨gi, 0, none⟩) x ci) (.slice (some ⟨gp, 0, none⟩) x cp) _ by
                have := s1
                simp only at this
                rw [syI_yes _ _ (by rw [unhide HI]; exact hlt)] at this
                exact this)
              have HO := hide (ho.put ⟨gi, k, none⟩ (.bool false) (.inl (.inr (.inr (.inl rfl)))))
              have l2 := blk_lt t2
              simp only at t2
              generalize (syI r k).getD k false = bb at *
              clear hr ho s1 hq t1 t3 z1 z3
              go_wp2
              refine ⟨⟨k + 1, by omega, by go_num, unhide HN, unhide HO⟩, ?_⟩
              simp [Go.RowKit.intOf]; omega
            · have hlt' : ¬ (k : Int) < (x : Int) := by omega
              have hkx : k = x := by omega
              have s1 := hr.set (r' := { rr with is := syI r k, left := 0 }) 3 (I 0) rfl rfl rfl rfl
              have s2 := s1.set (r' := { rr with is := syI r k, left := 0, dead := false }) 4 (.bool false) rfl rfl rfl rfl
              have HO := hide ((ho.put ⟨X, 3, none⟩ (I 0) (.inl (.inl rfl))).put ⟨X, 4, none⟩ (.bool false) (.inl (.inl rfl)))
              have f3 := frz hr.blk 3
              have f4 := frz s1.blk 4
              have e4 := s1.c.2.2.2.2.1
              have hl3 := s1.lt
              simp only at d3 d4 e4
              have HN := hide s2
              clear hr ho s1 s2
              go_wp2
              go_ret
              rw [(unhide HF).1, (unhide HF).2]
              have hX := unhide HX
              have hN := unhide HN
              rw [← unhide HRR, hkx] at hN
              subst hX
              exact ⟨rfl, hN, unhide HO⟩
end
end Go.Proofs.Ytpelmacblglhoaa
