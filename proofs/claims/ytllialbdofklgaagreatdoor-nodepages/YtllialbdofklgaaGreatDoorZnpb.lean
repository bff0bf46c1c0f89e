import Derived.Test.YtllialbdofklgaaGreatDoorZnpa
import Derived.Test.YtllialbdofklgaaGreatDoorNom
import Derived.Test.YtllialbdofklgaaGreatDoorZnff
import Derived.RegionTactic
namespace Go.Proofs.YtllialbdofklgaaGreatDoor
open Go.RowKit
set_option maxHeartbeats 8000000
set_option maxRecDepth 8000
theorem owns_capb {B e k m n c : Nat} {p : Option Addr} {w : World} {xs : List Value} (h : w.ownsRow B e k (.slice p n c) m xs) : n ≤ c ∧ c ≤ 9223372036854775807 := by
  rcases h.2 with ⟨q, _⟩ | ⟨g, cap, cur, q1, q2, q3, q4, q5, q6, q7⟩
  · cases q; omega
  · cases q1
    unfold maxLen at q5
    omega
/-! ### Two rising lists are put together -/
structure Mrg (zs O A B : List Int) : Prop where
  perm : (O ++ A ++ B).Perm zs
  po : O.Pairwise (· ≤ ·)
  pa : A.Pairwise (· ≤ ·)
  pb : B.Pairwise (· ≤ ·)
  oa : ∀ x ∈ O, ∀ y ∈ A, x ≤ y
  ob : ∀ x ∈ O, ∀ y ∈ B, x ≤ y
theorem Mrg.left {zs O A B : List Int} {x y : Int} (h : Mrg zs O (x :: A) (y :: B)) (hxy : x ≤ y) : Mrg zs (O ++ [x]) A (y :: B) := by
  obtain ⟨h1, h2, h3, h4, h5, h6⟩ := h
  have h3' := List.pairwise_cons.1 h3
  have h4' := List.pairwise_cons.1 h4
  refine ⟨by simpa using h1, List.pairwise_append.2 ⟨h2, List.pairwise_singleton _ _, fun a ha b hb => ?_⟩, h3'.2, h4, fun a ha b hb => ?_, fun a ha b hb => ?_⟩
  · rw [List.mem_singleton.1 hb]; exact h5 a ha x (by simp)
  · rcases List.mem_append.1 ha with q | q
    · exact h5 a q b (by simp [hb])
    · rw [List.mem_singleton.1 q]; exact h3'.1 b hb
  · rcases List.mem_append.1 ha with q | q
    · exact h6 a q b hb
    · rw [List.mem_singleton.1 q]
      rcases List.mem_cons.1 hb with r | r
      · omega
      · have := h4'.1 b r; omega
theorem Mrg.right {zs O A B : List Int} {x y : Int} (h : Mrg zs O (x :: A) (y :: B)) (hxy : ¬ x ≤ y) : Mrg zs (O ++ [y]) (x :: A) B := by
  obtain ⟨h1, h2, h3, h4, h5, h6⟩ := h
  have h3' := List.pairwise_cons.1 h3
  have h4' := List.pairwise_cons.1 h4
  refine ⟨List.Perm.trans ?_ h1, List.pairwise_append.2 ⟨h2, List.pairwise_singleton _ _, fun a ha b hb => ?_⟩, h3, h4'.2, fun a ha b hb => ?_, fun a ha b hb => ?_⟩
  · rw [List.append_assoc, List.append_assoc, List.append_assoc]
    refine List.Perm.append_left O ?_
    exact (List.perm_middle (a := y) (l₁ := x :: A) (l₂ := B)).symm
  · rw [List.mem_singleton.1 hb]; exact h6 a ha y (by simp)
  · rcases List.mem_append.1 ha with q | q
    · exact h5 a q b hb
    · rw [List.mem_singleton.1 q]
      rcases List.mem_cons.1 hb with r | r
      · omega
      · have := h3'.1 b r; omega
  · rcases List.mem_append.1 ha with q | q
    · exact h6 a q b (by simp [hb])
    · rw [List.mem_singleton.1 q]; exact h4'.1 b hb
theorem Mrg.done {zs O A B : List Int} (h : Mrg zs O A B) (h0 : A = [] ∨ B = []) : (O ++ A ++ B).Perm zs ∧ (O ++ A ++ B).Pairwise (· ≤ ·) := by
  refine ⟨h.perm, List.pairwise_append.2 ⟨List.pairwise_append.2 ⟨h.po, h.pa, h.oa⟩, h.pb, fun a ha b hb => ?_⟩⟩
  rcases h0 with rfl | rfl
  · exact h.ob a (by simpa using ha) b hb
  · cases hb
theorem small_pw (zs : List Int) (h : zs.length < 2) : zs.Pairwise (· ≤ ·) := by
  match zs, h with
  | [], _ => exact List.Pairwise.nil
  | [x], _ => exact List.pairwise_singleton _ _
theorem Ins.tl {w : World} {ad : Addr} {n : Nat} {x : Int} {l : List Int} (h : Ins w (some ad) n (x :: l)) : ∃ g o, ad = ⟨g, o, none⟩ ∧ n = l.length + 1 ∧ g < w.heap.size ∧ w.cell? ⟨g, o, none⟩ = some (I x) ∧ Ins w (some ⟨g, o + 1, none⟩) l.length l := by
  have h1 := h.1
  simp only [List.length_cons] at h1
  subst h1
  obtain ⟨g, o, e, hc⟩ := h.2 (by omega)
  cases e
  refine ⟨g, o, rfl, rfl, blk_lt (hc 0 (by omega)), hc 0 (by omega), rfl, fun _ => ⟨g, o + 1, rfl, fun j hj => ?_⟩⟩
  have := hc (j + 1) (by omega)
  rw [show o + 1 + j = o + (j + 1) by omega, this]
  simp
def sln (v : Value) : Nat := match v with | .slice _ n _ => n | _ => 0
theorem refSorted_any : ∀ (N n : Nat), n ≤ N → ∀ (a : Option Addr) (cap : Nat) (zs : List Int) (w : World), Ins w a n zs → n ≤ 4294967296 → n ≤ cap → cap ≤ 9223372036854775807 →
    Calls Tryz.prog 106 #[.slice a n cap] w fun e w' => ∃ p c us, e = .returned (.slice p n c) ∧ n ≤ c ∧ c ≤ 9223372036854775807 ∧ Ins w' p n us ∧ us.Perm zs ∧ us.Pairwise (· ≤ ·) ∧ Below w.heap.size w w' := by
  intro N
  induction N with
  | zero =>
    intro n hn a cap zs w hI hb hcap hc2
    obtain rfl : n = 0 := by omega
    have hN := hI.1
    have HI := hide hI
    have HW := hide (small_pw zs (by omega))
    clear hI hN
    go_enter Tryz.func106, Tryz.ntmps106
    go_wp2
    go_ret
    exact ⟨a, cap, zs, rfl, hcap, hc2, unhide HI, List.Perm.refl _, unhide HW, Below.refl _ _⟩
  | succ N ih =>
    intro n hn a cap zs w hI hb hcap hc2
    by_cases h2 : n < 2
    · have hN := hI.1
      have HI := hide hI
      have HW := hide (small_pw zs (by omega))
      have h2' : (n : Int) < 2 := by omega
      clear hI hN ih
      go_enter Tryz.func106, Tryz.ntmps106
      go_wp2
      go_ret
      exact ⟨a, cap, zs, rfl, hcap, hc2, unhide HI, List.Perm.refl _, unhide HW, Below.refl _ _⟩
    · have h2' : ¬ (n : Int) < 2 := by omega
      obtain ⟨g, o, rfl, -⟩ := hI.2 (by omega)
      obtain ⟨k, hk⟩ : ∃ k, k = n / 2 := ⟨_, rfl⟩
      have hk1 : 1 ≤ k := by omega
      have hk2 : k < n := by omega
      have hq : (n : Int) / 2 = (k : Int) := by omega
      have hq2 : Int.tdiv (n : Int) 2 = (k : Int) := by rw [Int.tdiv_eq_ediv_of_nonneg (by omega)]; exact hq
      have X1 := hide (fun W (q : Below w.heap.size w W) => ih k (by omega) (some ⟨g, o, none⟩) cap (zs.take k) W ((hI.tk k (by omega)).below q) (by omega) (by omega) (by omega))
      have X2 := hide (fun W (q : Below w.heap.size w W) => ih (n - k) (by omega) (some ⟨g, o + k, none⟩) (cap - k) (zs.drop k) W ((hI.dr k).below q) (by omega) (by omega) (by omega))
      have HZ := hide hI.1
      have c1 : k ≤ cap := by omega
      have c2 : k ≤ n := by omega
      have c3 : ¬ cap = k := by omega
      clear ih hI hk
      have x1 := hide (unhide X1 w (Below.refl _ _))
      go_enter Tryz.func106, Tryz.ntmps106
      go_wp2_with fail
      refine (unhide x1).mono ?_
      rintro e w1 ⟨pa, ca, A0, rfl, ha1, ha2, hA, pA, sA, b1⟩
      have x2 := hide (unhide X2 w1 b1)
      have HA := hide (And.intro hA (And.intro pA sA))
      have B1 := hide b1
      clear hA pA sA b1 x1 X1 X2
      go_wp2_with fail
      refine (unhide x2).mono ?_
      rintro e w2 ⟨pb, cb, B0, rfl, hb1, hb2, hB, pB, sB, b2⟩
      obtain ⟨ga, oa, rfl, -⟩ := (unhide HA).1.2 (by omega)
      obtain ⟨gb, ob, rfl, -⟩ := hB.2 (by omega)
      obtain ⟨hA, pA, sA⟩ := unhide HA
      have hla := hA.1
      have hlb := hB.1
      have HIA := hide (hA.below b2)
      have HIB := hide hB
      have B2 := hide ((unhide B1).trans (b2.mono (unhide B1).size))
      have HM0 := hide (show Mrg zs [] A0 B0 from ⟨by have := pA.append pB; rw [List.take_append_drop] at this; simpa using this, List.Pairwise.nil, sA, sB, by simp, by simp⟩)
      have HLA := hide (And.intro hla hlb)
      clear hla hlb hA pA sA hB pB sB b2 HA x2 B1 hq hq2 c1 c2 c3 hk1 hk2
      go_wp2
      go_loopw [3, 4, 5] (fun s3 s4 s5 wr => ∃ (A B O : List Int) (xa xb : Addr) (ca cb : Nat) (po : Option Addr) (co : Nat), s3 = .slice (some xa) A.length ca ∧ s4 = .slice (some xb) B.length cb ∧ s5 = .slice po O.length co ∧ (A.length ≤ ca ∧ ca ≤ 9223372036854775807 ∧ B.length ≤ cb ∧ cb ≤ 9223372036854775807) ∧ Ins w2 (some xa) A.length A ∧ Ins w2 (some xb) B.length B ∧ wr.ownsRow 0 3 1 (.slice po O.length co) O.length (O.map fun z => I z) ∧ (∀ j, (Value.slice po O.length co).ownBlock = some j → w2.heap.size ≤ j) ∧ Mrg zs O A B ∧ Below w2.heap.size w2 wr) (fun s3 s4 _ _ => sln s3 + sln s4)
      case atStart =>
        obtain ⟨hla, hlb⟩ := unhide HLA
        rw [hlb, hla]
        refine ⟨A0, B0, [], ⟨ga, oa, none⟩, ⟨gb, ob, none⟩, ca, cb, none, 0, rfl, rfl, rfl, ⟨by omega, ha2, by omega, hb2⟩, ?_, ?_, owns_nil _ _ _, (fun j hj => nomatch hj), unhide HM0, Below.refl _ _⟩
        · have := unhide HIA; rw [hla] at this; exact this
        · have := unhide HIB; rw [hlb] at this; exact this
      case round =>
        clear HM0 HIA HIB HLA ha1 ha2 hb1 hb2
        obtain ⟨A, B, O, xa, xb, ca, cb, po, co, rfl, rfl, rfl, ⟨q1, q2, q3, q4⟩, hIA, hIB, hO, hV, hM, hBl⟩ := hrel
        have HIA := hide (hIA.below hBl)
        have HIB0 := hide hIB
        have HO := hide hO
        have HV := hide hV
        have HM := hide hM
        have HB := hide hBl
        have hpl := hM.perm.length_eq
        simp only [List.length_append] at hpl
        have HLN := hide hpl
        have hLb : O.length + A.length + B.length ≤ 4294967296 := by have := unhide HZ; omega
        clear hpl
        cases A with
        | nil =>
          simp only [List.length_nil] at *
          generalize hol : O.length = ol at *
          generalize hbl : B.length = bl at *
          have HLS := hide (And.intro hol hbl)
          clear hol hbl
          clear hIA hIB hO hV hM hBl
          go_wp2_with (at_builtin; first | (refine wp_anyI rfl (.tmp 53) (.tmp 54) rfl (.slice po ol co) ol O (by rfl) (unhide HO) (some xa) (0) ca [] (unhide HIA) (fun q => nomatch q) (by rfl) (by omega) ?_; intro p3 c3 w3 r3 o3 n3; have HR3 := hide r3; have HN3 := hide n3; have HB3 := hide (o3.below (unhide HB) (unhide HB).size (fun j hj => unhide HV j hj)); have HIB3 := hide ((unhide HIB0).below (unhide HB3)); clear r3 o3 n3) | (refine wp_anyI rfl (.tmp 56) (.tmp 57) rfl (.slice p3 (ol + (0)) c3) (ol + (0)) (O ++ []) (by rfl) (unhide HR3) (some xb) (bl) cb B (unhide HIB3) (fun q => nomatch q) (by rfl) (by omega) ?_; intro p4 c4 w4 r4 o4 n4; have HR4 := hide r4; have HO4 := hide o4; clear r4 o4 n4))
          go_ret
          obtain ⟨rfl, rfl⟩ := unhide HLS
          have hr := unhide HR4
          obtain ⟨hp1, hp2⟩ := (unhide HM).done (.inl rfl)
          have hln : (O ++ [] ++ B).length = n := hp1.length_eq.trans (unhide HZ).symm
          have hbw := (unhide HO4).below (unhide HB3) (unhide HB3).size (fun j hj => by
            rcases unhide HN3 j hj with q | q
            · exact unhide HV j q
            · exact Nat.le_trans (unhide HB).size q)
          have hq : O.length + (0) + (B.length) = (O ++ [] ++ B).length := by simp
          have hcp := owns_capb hr
          rw [hq] at hr hcp
          obtain ⟨p5, c5, e5, s5, -⟩ := Ins.of hr
          cases e5
          rw [hln] at s5 hcp
          refine ⟨p4, c4, O ++ [] ++ B, by rw [← hln, ← hq]; rfl, hcp.1, hcp.2, s5, hp1, hp2, (unhide B2).trans (hbw.mono (unhide B2).size)⟩
        | cons x A =>
          cases B with
          | nil =>
            simp only [List.length_nil, List.length_cons] at *
            generalize hol : O.length = ol at *
            generalize hal : A.length = al at *
            have HLS := hide (And.intro hol hal)
            clear hol hal
            have p1 : (0 : Int) < ((al + 1 : Nat) : Int) := by omega
            clear hIA hIB hO hV hM hBl
            go_wp2_with (at_builtin; first | (refine wp_anyI rfl (.tmp 53) (.tmp 54) rfl (.slice po ol co) ol O (by rfl) (unhide HO) (some xa) (al + 1) ca (x :: A) (unhide HIA) (fun q => nomatch q) (by rfl) (by omega) ?_; intro p3 c3 w3 r3 o3 n3; have HR3 := hide r3; have HN3 := hide n3; have HB3 := hide (o3.below (unhide HB) (unhide HB).size (fun j hj => unhide HV j hj)); have HIB3 := hide ((unhide HIB0).below (unhide HB3)); clear r3 o3 n3) | (refine wp_anyI rfl (.tmp 56) (.tmp 57) rfl (.slice p3 (ol + (al + 1)) c3) (ol + (al + 1)) (O ++ (x :: A)) (by rfl) (unhide HR3) (some xb) (0) cb [] (unhide HIB3) (fun q => nomatch q) (by rfl) (by omega) ?_; intro p4 c4 w4 r4 o4 n4; have HR4 := hide r4; have HO4 := hide o4; clear r4 o4 n4))
            go_ret
            obtain ⟨rfl, rfl⟩ := unhide HLS
            have hr := unhide HR4
            obtain ⟨hp1, hp2⟩ := (unhide HM).done (.inr rfl)
            have hln : (O ++ (x :: A) ++ []).length = n := hp1.length_eq.trans (unhide HZ).symm
            have hbw := (unhide HO4).below (unhide HB3) (unhide HB3).size (fun j hj => by
              rcases unhide HN3 j hj with q | q
              · exact unhide HV j q
              · exact Nat.le_trans (unhide HB).size q)
            have hq : O.length + (A.length + 1) + (0) = (O ++ (x :: A) ++ []).length := by simp
            have hcp := owns_capb hr
            rw [hq] at hr hcp
            obtain ⟨p5, c5, e5, s5, -⟩ := Ins.of hr
            cases e5
            rw [hln] at s5 hcp
            refine ⟨p4, c4, O ++ (x :: A) ++ [], by rw [← hln, ← hq]; rfl, hcp.1, hcp.2, s5, hp1, hp2, (unhide B2).trans (hbw.mono (unhide B2).size)⟩
          | cons y B =>
            obtain ⟨g1, o1, rfl, e1, l1, d1, t1⟩ := hIA.tl
            obtain ⟨g2, o2, rfl, e2, l2, d2, t2⟩ := hIB.tl
            have d1 := (hBl.cell l1).trans d1
            have d2 := (hBl.cell l2).trans d2
            have l1 := Nat.lt_of_lt_of_le l1 hBl.size
            have l2 := Nat.lt_of_lt_of_le l2 hBl.size
            have T1 := hide t1
            have T2 := hide t2
            have HIA0 := hide hIA
            clear hIA hIB hO hV hM hBl t1 t2 HIA
            simp only [List.length_cons] at *
            generalize hol : O.length = ol at *
            generalize hal : A.length = al at *
            generalize hbl : B.length = bl at *
            have HLS := hide (And.intro hol (And.intro hal hbl))
            clear hol hal hbl
            have p1 : (0 : Int) < ((al + 1 : Nat) : Int) := by omega
            have p2 : (0 : Int) < ((bl + 1 : Nat) : Int) := by omega
            go_wp2
            go_region
            all_goals (
              by_cases hxy : x ≤ y
              · have hd : decide (x ≤ y) = true := decide_eq_true hxy
                have HX := hide (show Ins (wr.drew.alloc (.cells #[I x] 3)) (some ⟨wr.heap.size, 0, none⟩) 1 [x] from ⟨rfl, fun _ => ⟨wr.heap.size, 0, rfl, fun j hj => by
                  obtain rfl : j = 0 := by omega
                  rw [cell_of_row _ wr.heap.size (0 + 0) _ 3 (0, 0) (heap_alloc_new wr.drew (.cells #[I x] 3))]
                  rfl⟩⟩)
                have HQ := hide (show Below wr.heap.size wr (wr.drew.alloc (.cells #[I x] 3)) from (Below.refl wr.heap.size wr).drew.alloc (Nat.le_refl _) _)
                have HO2 := hide (owns_below (unhide HO) (unhide HQ))
                have HB2 := hide ((unhide HB).trans ((unhide HQ).mono (unhide HB).size))
                have HM2 := hide ((unhide HM).left hxy)
                by_cases hca : ca = 1
                · go_wp2_with (at_builtin; refine wp_appI rfl (.tmp 37) (.tmp 41) rfl (.slice po ol co) ol O (by rfl) (unhide HO2) wr.heap.size 0 1 1 [x] (unhide HX) (by rfl) (by omega) ?_; intro p3 c3 w3 r3 o3 n3; have HR3 := hide r3; have HO3 := hide o3; have HN3 := hide n3; clear r3 o3 n3)
                  go_roundw
                  case rel =>
                    obtain ⟨rfl, rfl, rfl⟩ := unhide HLS
                    refine ⟨A, y :: B, O ++ [x], ⟨g1, o1, none⟩, ⟨g2, o2, none⟩, ca - 1, cb, p3, c3, by rw [hca], by rfl, by simp, ⟨by first | omega | (simp; omega), by omega, by first | omega | (simp; omega), by omega⟩, ⟨rfl, fun q => by omega⟩, unhide HIB0, by have := unhide HR3; simpa using this, fun j hj => ?_, unhide HM2, (unhide HO3).below (unhide HB2) (unhide HB2).size (fun j hj => unhide HV j hj)⟩
                    rcases unhide HN3 j (by simpa using hj) with q | q
                    · exact unhide HV j q
                    · exact Nat.le_trans (unhide HB2).size q
                  case measure => simp [sln]
                · go_wp2_with (at_builtin; refine wp_appI rfl (.tmp 37) (.tmp 41) rfl (.slice po ol co) ol O (by rfl) (unhide HO2) wr.heap.size 0 1 1 [x] (unhide HX) (by rfl) (by omega) ?_; intro p3 c3 w3 r3 o3 n3; have HR3 := hide r3; have HO3 := hide o3; have HN3 := hide n3; clear r3 o3 n3)
                  go_roundw
                  case rel =>
                    obtain ⟨rfl, rfl, rfl⟩ := unhide HLS
                    refine ⟨A, y :: B, O ++ [x], ⟨g1, o1 + 1, none⟩, ⟨g2, o2, none⟩, ca - 1, cb, p3, c3, by rfl, by rfl, by simp, ⟨by first | omega | (simp; omega), by omega, by first | omega | (simp; omega), by omega⟩, unhide T1, unhide HIB0, by have := unhide HR3; simpa using this, fun j hj => ?_, unhide HM2, (unhide HO3).below (unhide HB2) (unhide HB2).size (fun j hj => unhide HV j hj)⟩
                    rcases unhide HN3 j (by simpa using hj) with q | q
                    · exact unhide HV j q
                    · exact Nat.le_trans (unhide HB2).size q
                  case measure => simp [sln]
              · have hd : decide (x ≤ y) = false := decide_eq_false hxy
                have HX := hide (show Ins (wr.drew.alloc (.cells #[I y] 3)) (some ⟨wr.heap.size, 0, none⟩) 1 [y] from ⟨rfl, fun _ => ⟨wr.heap.size, 0, rfl, fun j hj => by
                  obtain rfl : j = 0 := by omega
                  rw [cell_of_row _ wr.heap.size (0 + 0) _ 3 (0, 0) (heap_alloc_new wr.drew (.cells #[I y] 3))]
                  rfl⟩⟩)
                have HQ := hide (show Below wr.heap.size wr (wr.drew.alloc (.cells #[I y] 3)) from (Below.refl wr.heap.size wr).drew.alloc (Nat.le_refl _) _)
                have HO2 := hide (owns_below (unhide HO) (unhide HQ))
                have HB2 := hide ((unhide HB).trans ((unhide HQ).mono (unhide HB).size))
                have HM2 := hide ((unhide HM).right hxy)
                by_cases hca : cb = 1
                · go_wp2_with (at_builtin; refine wp_appI rfl (.tmp 45) (.tmp 49) rfl (.slice po ol co) ol O (by rfl) (unhide HO2) wr.heap.size 0 1 1 [y] (unhide HX) (by rfl) (by omega) ?_; intro p3 c3 w3 r3 o3 n3; have HR3 := hide r3; have HO3 := hide o3; have HN3 := hide n3; clear r3 o3 n3)
                  go_roundw
                  case rel =>
                    obtain ⟨rfl, rfl, rfl⟩ := unhide HLS
                    refine ⟨x :: A, B, O ++ [y], ⟨g1, o1, none⟩, ⟨g2, o2, none⟩, ca, cb - 1, p3, c3, by rfl, by rw [hca], by simp, ⟨by first | omega | (simp; omega), by omega, by first | omega | (simp; omega), by omega⟩, unhide HIA0, ⟨rfl, fun q => by omega⟩, by have := unhide HR3; simpa using this, fun j hj => ?_, unhide HM2, (unhide HO3).below (unhide HB2) (unhide HB2).size (fun j hj => unhide HV j hj)⟩
                    rcases unhide HN3 j (by simpa using hj) with q | q
                    · exact unhide HV j q
                    · exact Nat.le_trans (unhide HB2).size q
                  case measure => simp [sln]
                · go_wp2_with (at_builtin; refine wp_appI rfl (.tmp 45) (.tmp 49) rfl (.slice po ol co) ol O (by rfl) (unhide HO2) wr.heap.size 0 1 1 [y] (unhide HX) (by rfl) (by omega) ?_; intro p3 c3 w3 r3 o3 n3; have HR3 := hide r3; have HO3 := hide o3; have HN3 := hide n3; clear r3 o3 n3)
                  go_roundw
                  case rel =>
                    obtain ⟨rfl, rfl, rfl⟩ := unhide HLS
                    refine ⟨x :: A, B, O ++ [y], ⟨g1, o1, none⟩, ⟨g2, o2 + 1, none⟩, ca, cb - 1, p3, c3, by rfl, by rfl, by simp, ⟨by first | omega | (simp; omega), by omega, by first | omega | (simp; omega), by omega⟩, unhide HIA0, unhide T2, by have := unhide HR3; simpa using this, fun j hj => ?_, unhide HM2, (unhide HO3).below (unhide HB2) (unhide HB2).size (fun j hj => unhide HV j hj)⟩
                    rcases unhide HN3 j (by simpa using hj) with q | q
                    · exact unhide HV j q
                    · exact Nat.le_trans (unhide HB2).size q
                  case measure => simp [sln])
end Go.Proofs.YtllialbdofklgaaGreatDoor
namespace Go.Proofs.YtllialbdofklgaaGreatDoor
open Go.RowKit
set_option maxHeartbeats 8000000
set_option maxRecDepth 8000
/-! ### Numbers that stand twice -/
def adj : List Int → Bool
  | a :: b :: r => decide (a = b) || adj (b :: r)
  | _ => false
theorem adj_pw : ∀ {l : List Int}, l.Pairwise (· ≤ ·) → adj l = false → l.Pairwise (· < ·)
  | [], _, _ => List.Pairwise.nil
  | [a], _, _ => List.pairwise_singleton _ _
  | a :: b :: r, h, h2 => by
    simp only [adj, Bool.or_eq_false_iff, decide_eq_false_iff_not] at h2
    have h' := List.pairwise_cons.1 h
    have ih := adj_pw h'.2 h2.2
    refine List.pairwise_cons.2 ⟨fun x hx => ?_, ih⟩
    have hab := h'.1 b (by simp)
    have hlt : a < b := by have := h2.1; omega
    rcases List.mem_cons.1 hx with rfl | hx
    · exact hlt
    · have := (List.pairwise_cons.1 ih).1 x hx; omega
theorem adj_nodup {l : List Int} (h : l.Pairwise (· ≤ ·)) : adj l = false ↔ l.Nodup := by
  constructor
  · intro q
    exact (adj_pw h q).imp (fun {a b} r e => by omega)
  · intro q
    induction l with
    | nil => rfl
    | cons a r ih =>
      cases r with
      | nil => rfl
      | cons b r =>
        have q' := List.nodup_cons.1 q
        simp only [adj, Bool.or_eq_false_iff, decide_eq_false_iff_not]
        exact ⟨fun e => q'.1 (by simp [e]), ih (List.pairwise_cons.1 h).2 q'.2⟩
theorem adj_next (l : List Int) (k : Nat) (hk : k + 1 < l.length) : adj (l.take (k + 2)) = (adj (l.take (k + 1)) || decide (l.getD k 0 = l.getD (k + 1) 0)) := by
  induction l generalizing k with
  | nil => simp at hk
  | cons a r ih =>
    cases r with
    | nil => simp at hk
    | cons b r =>
      cases k with
      | zero => simp [adj]
      | succ k =>
        have := ih k (by simpa using hk)
        simp only [List.take_succ_cons, adj, List.getD_cons_succ] at this ⊢
        rw [this, Bool.or_assoc]
theorem adj_one (l : List Int) : adj (l.take 1) = false := by
  cases l <;> rfl
theorem adj_of {l : List Int} (h : ∀ j, j + 1 < l.length → l.getD j 0 ≠ l.getD (j + 1) 0) : adj l = false := by
  have : ∀ k, k + 1 ≤ l.length → adj (l.take (k + 1)) = false := by
    intro k
    induction k with
    | zero => intro _; exact adj_one l
    | succ k ih =>
      intro hk
      rw [adj_next l k (by omega), ih (by omega), Bool.false_or, decide_eq_false_iff_not]
      exact h k (by omega)
  rcases Nat.eq_zero_or_pos l.length with q | q
  · rw [List.eq_nil_of_length_eq_zero q]; rfl
  · have := this (l.length - 1) (by omega)
    rw [List.take_of_length_le (by omega)] at this
    exact this
theorem compact_adj (l : List Int) (h : (Go.Lib.compact l).length = l.length) : adj l = false := by
  unfold Go.Lib.compact Go.Lib.compactUpTo at h
  rw [List.length_map] at h
  have h2 : ∀ j ∈ List.range l.length, Go.Lib.keeps l.toArray j = true := by
    apply List.length_filter_eq_length_iff.1
    rw [h, List.length_range]
  refine adj_of fun j hj e => ?_
  have h3 := h2 (j + 1) (List.mem_range.2 hj)
  have h4 := Go.Lib.keeps_neg (d := l.toArray) (m := j + 1) (by omega) (by
    rw [Nat.add_sub_cancel, getElem!_pos _ (j + 1) (by simpa using hj), getElem!_pos _ j (by simp; omega)]
    simp only [List.getD_eq_getElem?_getD, List.getElem?_eq_getElem hj, List.getElem?_eq_getElem (show j < l.length by omega), Option.getD_some] at e
    simpa using e.symm)
  rw [h3] at h4
  cases h4
theorem unl_iff (zs : List Int) : unl zs = true ↔ zs.Nodup := by
  refine ⟨fun h => ?_, unl_nodup⟩
  unfold unl at h
  rw [decide_eq_true_eq, ← srt_len zs] at h
  have h2 := compact_adj _ h
  have hp : (srt zs).Perm zs := List.mergeSort_perm zs _
  have hs : (srt zs).Pairwise (· ≤ ·) := by
    have := List.pairwise_mergeSort (le := fun x y : Int => decide (x ≤ y)) (fun a b c => by simp; omega) (fun a b => by simp; omega) zs
    exact this.imp (fun {a b} q => by simpa using q)
  exact hp.nodup_iff.1 ((adj_nodup hs).1 h2)
theorem refRepeats_any (a : Option Addr) (n cap : Nat) (zs : List Int) (w : World) (hI : Ins w a n zs) (hb : n ≤ 4294967296) (hcap : n ≤ cap) (hc2 : cap ≤ 9223372036854775807) :
    Calls Tryz.prog 84 #[.slice a n cap] w fun e w' => e = .returned (.bool (!unl zs)) ∧ Below w.heap.size w w' := by
  have H1 := hide (refSorted_any n n (Nat.le_refl _) a cap zs w hI hb hcap hc2)
  clear hI
  go_enter Tryz.func84, Tryz.ntmps84
  go_wp2_with fail
  refine (unhide H1).mono ?_
  rintro e w1 ⟨p, c, us, rfl, -, -, hU, hp, hs, b1⟩
  have hur : (!unl zs) = adj us := by
    rw [Bool.eq_iff_iff]
    have h1 := unl_iff zs
    have h2 := adj_nodup hs
    have h3 := hp.nodup_iff
    cases hu : unl zs <;> cases ha : adj us <;> simp_all
  have HU := hide hU
  have hl := hU.1
  have HUR := hide hur
  have B1 := hide b1
  clear H1 hp hs b1 hU hur
  subst hl
  go_wp2
  go_loopw [4] (fun i wr => ∃ k q : Nat, (k ≤ us.length ∨ k = 1) ∧ 1 ≤ k ∧ i = .int .i64 k ∧ adj (us.take k) = false ∧ wr = w1.drewN q) (fun i _ => us.length - (Go.RowKit.intOf i).toNat)
  case atStart => exact ⟨1, 0, .inr rfl, by omega, rfl, adj_one us, rfl⟩
  case round =>
    obtain ⟨k, q, hk, hk1, rfl, ha, rfl⟩ := hrel
    by_cases hlt : k < us.length
    · have hlt' : (k : Int) < (us.length : Int) := by omega
      obtain ⟨j, rfl⟩ : ∃ j, k = j + 1 := ⟨k - 1, by omega⟩
      obtain ⟨p1, o1, rfl, hpl, hc0⟩ := (unhide HU).at hlt
      obtain ⟨p', o', e1, _, hc1⟩ := (unhide HU).at (show j < us.length by omega)
      cases e1
      have HN := hide (adj_next us j hlt)
      have HA := hide ha
      clear ha
      generalize us.getD (j + 1) 0 = y at *
      generalize us.getD j 0 = x at *
      by_cases hxy : y = x
      · have HR := hide (show adj us = true by
          cases q : adj us
          · have h1 : adj (us.take (j + 2)) = false := by
              have : ∀ (l : List Int) k, adj l = false → adj (l.take k) = false := by
                intro l
                induction l with
                | nil => intro k _; simp [adj]
                | cons a r ih =>
                  intro k h
                  cases r with
                  | nil => cases k <;> simp [adj]
                  | cons b r =>
                    simp only [adj, Bool.or_eq_false_iff] at h
                    match k with
                    | 0 => rfl
                    | 1 => rfl
                    | k + 2 =>
                      have := ih (k + 1) h.2
                      simp only [List.take_succ_cons, adj, Bool.or_eq_false_iff] at this ⊢
                      exact ⟨h.1, this⟩
              exact this us (j + 2) q
            rw [unhide HN, unhide HA, hxy] at h1
            simp at h1
          · rfl)
        have he : (y == x) = true := by simp [hxy]
        subst hxy
        clear HN HA
        go_wp2
        go_region
        all_goals (
          go_wp2
          go_ret
          exact ⟨ret_bool (by rw [unhide HUR, unhide HR]), by first | exact bel_q (unhide B1) _ | exact (bel_q (unhide B1) q).drew⟩)
      · have HA2 := hide (show adj (us.take (j + 2)) = false by rw [unhide HN, unhide HA]; simp; exact fun e => hxy e.symm)
        have he : (y == x) = false := by simp [hxy]
        clear HN HA
        go_wp2
        go_region
        all_goals (
          go_wp2
          go_roundw
          case rel => exact ⟨j + 2, q + 1, .inl (by omega), by omega, by go_num, unhide HA2, by first | rfl | trivial | simp⟩
          case measure => simp [Go.RowKit.intOf]; omega)
    · have hlt' : ¬ (k : Int) < (us.length : Int) := by omega
      have HA := hide (show adj us = false by rw [List.take_of_length_le (by omega)] at ha; exact ha)
      clear ha
      go_wp2
      go_ret
      exact ⟨ret_bool (by rw [unhide HUR, unhide HA]), bel_q (unhide B1) q⟩
end Go.Proofs.YtllialbdofklgaaGreatDoor
namespace Go.Proofs.YtllialbdofklgaaGreatDoor
open Go.RowKit
set_option maxHeartbeats 8000000
set_option maxRecDepth 8000
theorem refSize_any (n : Nd) (ka va ia : Option Addr) (kc vc ic : Nat) (w : World) (h : NA n ka va ia w) (hb : NB n) :
    Calls Tryz.prog 46 #[nda n ka va ia kc vc ic] w fun e w' => e = .returned (I n.siz) ∧ Below w.heap.size w w' := by
  obtain ⟨lf, ks, vs, is⟩ := n
  have hA := (Below.refl w.heap.size w).alloc (Nat.le_refl _) (.cells #[.bool lf, .slice ka ks.length kc, .slice va vs.length vc, .slice ia is.length ic] 25)
  have hg := heap_alloc_new w (.cells #[.bool lf, .slice ka ks.length kc, .slice va vs.length vc, .slice ia is.length ic] 25)
  have hz := lt_of_row hg
  have hn := h.below hA
  obtain ⟨b1, b2, b3, b4, b5⟩ := hb
  have H1 := hide hn.ks
  have H2 := hide hn.vs
  simp only at b1 b2 b3 b4 b5
  obtain ⟨c0, c1, c2, c3⟩ := box4 hg (Below.refl _ _) hz
  have HA := hide hA
  have HT1 := hide (fun k => Nat.le_trans (tot_take ks k) b4)
  have HT2 := hide (fun k => Nat.le_trans (tot_take vs k) b5)
  have HL1 := hide (fun k => Nat.le_trans (tot_at ks k) b4)
  have HL2 := hide (fun k => Nat.le_trans (tot_at vs k) b5)
  clear h hn hg
  unfold nda Nd.siz
  simp only at H1 H2 ⊢
  generalize hW : w.alloc (.cells #[.bool lf, .slice ka ks.length kc, .slice va vs.length vc, .slice ia is.length ic] 25) = W1 at *
  go_enter Tryz.func46, Tryz.ntmps46
  go_wp2
  clear hW
  go_loopw [3, 4] (fun s i wr => ∃ k : Nat, k ≤ ks.length ∧ i = .int .i64 k ∧ s = .int .i64 (tot (ks.take k) : Nat) ∧ wr = W1) (fun _ i _ => ks.length - (Go.RowKit.intOf i).toNat)
  case atStart => exact ⟨0, by omega, rfl, rfl, rfl⟩
  case round =>
    obtain ⟨k, hk, rfl, rfl, rfl⟩ := hrel
    by_cases hlt : k < ks.length
    · have hlt' : (k : Int) < (ks.length : Int) := by omega
      obtain ⟨p, o, rfl, hpl, hc0⟩ := (unhide H1).at hlt
      have HN := hide (tot_next ks k hlt)
      have t1 := unhide HT1 k
      have t2 := unhide HL1 k
      generalize ks.getD k [] = x at *
      generalize tot (ks.take k) = t at *
      go_wp2
      go_roundw
      case measure => simp [Go.RowKit.intOf]; omega
      case rel => exact ⟨k + 1, by omega, by go_num, by rw [unhide HN]; go_num, by first | trivial | rfl⟩
    · have hlt' : ¬ (k : Int) < (ks.length : Int) := by omega
      have hks : tot (ks.take k) = tot ks := by rw [List.take_of_length_le (by omega)]
      rw [hks]
      clear hks
      cases lf
      · generalize hts : tot ks = t at *
        have HTS := hide hts
        clear hts
        go_wp2
        go_ret
        exact ⟨ret_int (by have := unhide HTS; omega), unhide HA⟩
      · go_wp2
        go_loopw [3, 5] (fun s i wx => ∃ j : Nat, j ≤ vs.length ∧ i = .int .i64 j ∧ s = .int .i64 (tot ks + tot (vs.take j) : Nat) ∧ wx = wr) (fun _ i _ => vs.length - (Go.RowKit.intOf i).toNat)
        case atStart => exact ⟨0, by omega, rfl, rfl, rfl⟩
        case round =>
          obtain ⟨j, hj, rfl, rfl, rfl⟩ := hrel
          by_cases hlt2 : j < vs.length
          · have hlt2' : (j : Int) < (vs.length : Int) := by omega
            obtain ⟨p, o, rfl, hpl, hc0⟩ := (unhide H2).at hlt2
            have HN := hide (tot_next vs j hlt2)
            have t1 := unhide HT2 j
            have t2 := unhide HL2 j
            generalize vs.getD j [] = x at *
            generalize tot (vs.take j) = t at *
            generalize tot ks = t0 at *
            go_wp2
            go_roundw
            case measure => simp [Go.RowKit.intOf]; omega
            case rel => exact ⟨j + 1, by omega, by go_num, by rw [unhide HN]; go_num, by first | trivial | rfl⟩
          · have hlt2' : ¬ (j : Int) < (vs.length : Int) := by omega
            have hks : tot (vs.take j) = tot vs := by rw [List.take_of_length_le (by omega)]
            rw [hks]
            clear hks
            generalize hts : tot ks = t at *
            generalize hts2 : tot vs = t2 at *
            have HTS := hide (And.intro hts hts2)
            clear hts hts2
            go_wp2
            go_ret
            exact ⟨ret_int (by have := unhide HTS; omega), unhide HA⟩
end Go.Proofs.YtllialbdofklgaaGreatDoor
namespace Go.Proofs.YtllialbdofklgaaGreatDoor
open Go.RowKit
set_option maxHeartbeats 8000000
set_option maxRecDepth 8000
/-- The document's form; a leaf may be without keys, if so asked. -/
def fmr (n : Nd) (em : Bool) : Bool := if n.leaf then agl n && (em || decide (0 < n.keys.length)) else hfv n
theorem fmr_false (n : Nd) : fmr n false = hfv n := by
  unfold fmr hfv agv
  cases n.leaf
  · simp
  · simp [Bool.and_comm]
theorem refForm_any (n : Nd) (em : Bool) (ka va ia : Option Addr) (kc vc ic : Nat) (w : World) (h : NA n ka va ia w) (hb : NB n) (ci : n.kids.length ≤ ic) (hic : ic ≤ 9223372036854775807) :
    Calls Tryz.prog 79 #[nda n ka va ia kc vc ic, .bool em] w fun e w' => e = .returned (.bool (fmr n em)) ∧ Below w.heap.size w w' := by
  obtain ⟨lf, ks, vs, is⟩ := n
  have hA := (Below.refl w.heap.size w).alloc (Nat.le_refl _) (.cells #[.bool lf, .slice ka ks.length kc, .slice va vs.length vc, .slice ia is.length ic] 25)
  have hg := heap_alloc_new w (.cells #[.bool lf, .slice ka ks.length kc, .slice va vs.length vc, .slice ia is.length ic] 25)
  have hz := lt_of_row hg
  have hn := h.below hA
  obtain ⟨b1, b2, b3, b4, b5⟩ := hb
  have H2 := hide hn.vs
  have H3 := hide hn.is
  simp only at b1 b2 b3 b4 b5 ci
  obtain ⟨c0, c1, c2, c3⟩ := box4 hg (Below.refl _ _) hz
  have HA := hide hA
  have HG := hide hg
  have HL2 := hide (fun k => Nat.le_trans (tot_at vs k) b5)
  clear h hn hg b4 b5
  unfold nda
  simp only at H2 H3 ⊢
  generalize hW : w.alloc (.cells #[.bool lf, .slice ka ks.length kc, .slice va vs.length vc, .slice ia is.length ic] 25) = W1 at *
  cases lf
  · have HR := hide (refRepeats_any ia is.length ic is W1 (unhide H3) b3 ci hic)
    have HF := hide (show fmr ⟨false, ks, vs, is⟩ em = (!anyI is && (decide (0 < ks.length) && (decide (is.length = ks.length + 1) && (decide (vs.length = 0) && unl is)))) by
      unfold fmr hfv agv agi
      simp only [Bool.false_eq_true, if_false]
      cases anyI is <;> cases unl is <;> simp)
    go_enter Tryz.func79, Tryz.ntmps79
    go_wp2
    clear hW
    go_loopw [6] (fun i wr => ∃ k : Nat, k ≤ is.length ∧ i = .int .i64 k ∧ anyI (is.take k) = false ∧ wr = W1) (fun i _ => is.length - (Go.RowKit.intOf i).toNat)
    case atStart => exact ⟨0, by omega, rfl, rfl, rfl⟩
    case round =>
      obtain ⟨k, hk, rfl, ha, rfl⟩ := hrel
      by_cases hlt : k < is.length
      · have hlt' : (k : Int) < (is.length : Int) := by omega
        obtain ⟨p, o, rfl, hpl, hc0⟩ := (unhide H3).at hlt
        have HN := hide (anyi_next is k hlt)
        have HW := hide (anyi_hit is k hlt)
        generalize is.getD k 0 = x at *
        have HAA := hide ha
        clear ha
        cases hx : nki x
        · have HA2 := hide (show anyI (is.take (k + 1)) = false by rw [unhide HN, unhide HAA, hx]; rfl)
          unfold nki at hx
          simp only [Bool.or_eq_false_iff, decide_eq_false_iff_not] at hx
          obtain ⟨x1, x2⟩ := hx
          have q1 : decide (x < 2) = false := decide_eq_false x1
          have q2 : decide ((4294967295 : Int) < x) = false := decide_eq_false x2
          clear HN HW HAA
          go_wp2
          go_roundw
          case measure => simp [Go.RowKit.intOf]; omega
          case rel => exact ⟨k + 1, by omega, by go_num, unhide HA2, by first | trivial | rfl⟩
        · have HX := hide (show fmr ⟨false, ks, vs, is⟩ em = false by rw [unhide HF, unhide HW hx]; rfl)
          unfold nki at hx
          simp only [Bool.or_eq_true, decide_eq_true_eq] at hx
          clear HN HW HAA
          by_cases x1 : x < 2
          · clear hx
            go_wp2
            go_ret
            exact ⟨ret_bool (unhide HX).symm, unhide HA⟩
          · have x2 : (4294967295 : Int) < x := by omega
            clear hx
            go_wp2
            go_ret
            exact ⟨ret_bool (unhide HX).symm, unhide HA⟩
      · have hlt' : ¬ (k : Int) < (is.length : Int) := by omega
        rw [List.take_of_length_le (by omega)] at ha
        rw [ha, Bool.not_false, Bool.true_and] at HF
        clear ha
        go_wp2_with fail
        refine (unhide HR).mono ?_
        rintro e w2 ⟨rfl, b⟩
        obtain ⟨c0, c1, c2, c3⟩ := box4 (unhide HG) b hz
        have lz := Nat.lt_of_lt_of_le hz b.size
        have HB := hide ((unhide HA).trans (b.mono (unhide HA).size))
        generalize unl is = ub at *
        clear b HR
        generalize ks.length = kl at *
        generalize is.length = il at *
        generalize vs.length = vl at *
        by_cases p1 : 0 < kl
        · have p1' : (0 : Int) < (kl : Int) := by omega
          by_cases p2 : il = kl + 1
          · have p2' : (il : Int) = (kl : Int) + 1 := by omega
            by_cases p3 : vl = 0
            · have p3' : (vl : Int) = 0 := by omega
              have HV := hide (show ub = fmr ⟨false, ks, vs, is⟩ em by rw [unhide HF]; simp [p1, p2, p3])
              clear HF
              go_wp2
              go_ret
              exact ⟨ret_bool (by rw [← unhide HV]), unhide HB⟩
            · have p3' : ¬ (vl : Int) = 0 := by omega
              have HV := hide (show false = fmr ⟨false, ks, vs, is⟩ em by rw [unhide HF]; simp [p3])
              clear HF
              go_wp2
              go_ret
              exact ⟨ret_bool (unhide HV), unhide HB⟩
          · have p2' : ¬ (il : Int) = (kl : Int) + 1 := by omega
            have HV := hide (show false = fmr ⟨false, ks, vs, is⟩ em by rw [unhide HF]; simp [p2])
            clear HF
            go_wp2
            go_ret
            exact ⟨ret_bool (unhide HV), unhide HB⟩
        · have p1' : ¬ (0 : Int) < (kl : Int) := by omega
          have HV := hide (show false = fmr ⟨false, ks, vs, is⟩ em by rw [unhide HF]; simp [p1])
          clear HF
          go_wp2
          go_ret
          exact ⟨ret_bool (unhide HV), unhide HB⟩
  · have HF := hide (show fmr ⟨true, ks, vs, is⟩ em = (!anyB lng vs && (decide (vs.length = ks.length) && (decide (is.length = 0) && (em || decide (0 < ks.length))))) by
      unfold fmr agl
      simp only [if_true]
      cases anyB lng vs <;> simp [Bool.and_assoc])
    go_enter Tryz.func79, Tryz.ntmps79
    go_wp2
    clear hW
    go_loopw [5] (fun i wr => ∃ k : Nat, k ≤ vs.length ∧ i = .int .i64 k ∧ anyB lng (vs.take k) = false ∧ wr = W1) (fun i _ => vs.length - (Go.RowKit.intOf i).toNat)
    case atStart => exact ⟨0, by omega, rfl, rfl, rfl⟩
    case round =>
      obtain ⟨k, hk, rfl, ha, rfl⟩ := hrel
      by_cases hlt : k < vs.length
      · have hlt' : (k : Int) < (vs.length : Int) := by omega
        obtain ⟨p, o, rfl, hpl, hc0⟩ := (unhide H2).at hlt
        have HN := hide (anyb_next lng vs k hlt)
        have HW := hide (anyb_hit lng vs k hlt)
        have hxl := unhide HL2 k
        generalize vs.getD k [] = x at *
        have HAA := hide ha
        clear ha HL2
        cases hx : lng x
        · have HA2 := hide (show anyB lng (vs.take (k + 1)) = false by rw [unhide HN, unhide HAA, hx]; rfl)
          unfold lng at hx
          simp only [decide_eq_false_iff_not] at hx
          have q1 : ¬ (200 : Int) < (x.length : Int) := by omega
          clear HN HW HAA hx
          go_wp2
          go_roundw
          case measure => simp [Go.RowKit.intOf]; omega
          case rel => exact ⟨k + 1, by omega, by go_num, unhide HA2, by first | trivial | rfl⟩
        · have HX := hide (show fmr ⟨true, ks, vs, is⟩ em = false by rw [unhide HF, unhide HW hx]; rfl)
          unfold lng at hx
          simp only [decide_eq_true_eq] at hx
          have q1 : (200 : Int) < (x.length : Int) := by omega
          clear HN HW HAA hx
          go_wp2
          go_ret
          exact ⟨ret_bool (unhide HX).symm, unhide HA⟩
      · have hlt' : ¬ (k : Int) < (vs.length : Int) := by omega
        rw [List.take_of_length_le (by omega)] at ha
        rw [ha, Bool.not_false, Bool.true_and] at HF
        clear ha
        generalize ks.length = kl at *
        generalize is.length = il at *
        generalize vs.length = vl at *
        by_cases p1 : vl = kl
        · have p1' : (vl : Int) = (kl : Int) := by omega
          by_cases p2 : il = 0
          · have p2' : (il : Int) = 0 := by omega
            cases em
            · have HV := hide (show decide ((0 : Int) < (kl : Int)) = fmr ⟨true, ks, vs, is⟩ false by rw [unhide HF]; simp [p1, p2])
              clear HF
              by_cases p3 : 0 < kl
              · have p3' : (0 : Int) < (kl : Int) := by omega
                go_wp2
                go_ret
                exact ⟨ret_bool (by rw [← unhide HV]; simp; omega), unhide HA⟩
              · have p3' : ¬ (0 : Int) < (kl : Int) := by omega
                go_wp2
                go_ret
                exact ⟨ret_bool (by rw [← unhide HV]; simp; omega), unhide HA⟩
            · have HV := hide (show true = fmr ⟨true, ks, vs, is⟩ true by rw [unhide HF]; simp [p1, p2])
              clear HF
              go_wp2
              go_ret
              exact ⟨ret_bool (unhide HV), unhide HA⟩
          · have p2' : ¬ (il : Int) = 0 := by omega
            have HV := hide (show false = fmr ⟨true, ks, vs, is⟩ em by rw [unhide HF]; simp [p2])
            clear HF
            go_wp2
            go_ret
            exact ⟨ret_bool (unhide HV), unhide HA⟩
        · have p1' : ¬ (vl : Int) = (kl : Int) := by omega
          have HV := hide (show false = fmr ⟨true, ks, vs, is⟩ em by rw [unhide HF]; simp [p1])
          clear HF
          go_wp2
          go_ret
          exact ⟨ret_bool (unhide HV), unhide HA⟩
theorem refWrong_any (n : Nd) (ka va ia : Option Addr) (kc vc ic : Nat) (w : World) (h : NA n ka va ia w) (hb : NB n) (ci : n.kids.length ≤ ic) (hic : ic ≤ 9223372036854775807) :
    Calls Tryz.prog 75 #[nda n ka va ia kc vc ic] w fun e w' => e = .returned (I (wrv n)) ∧ Below w.heap.size w w' := by
  have hA := (Below.refl w.heap.size w).alloc (Nat.le_refl _) (.cells #[.bool n.leaf, .slice ka n.keys.length kc, .slice va n.vals.length vc, .slice ia n.kids.length ic] 25)
  have hg := heap_alloc_new w (.cells #[.bool n.leaf, .slice ka n.keys.length kc, .slice va n.vals.length vc, .slice ia n.kids.length ic] 25)
  have hz := lt_of_row hg
  generalize hW : w.alloc (.cells #[.bool n.leaf, .slice ka n.keys.length kc, .slice va n.vals.length vc, .slice ia n.kids.length ic] 25) = W1 at hA hg hz
  have hna := h.below hA
  have H1 := hide (refForm_any n false ka va ia kc vc ic W1 hna hb ci hic)
  have H2 := hide (fun W (b : Below W1.heap.size W1 W) => refKeys_any ka _ kc n.keys W (hna.below b).ks hb.k hb.kt)
  have H3 := hide (fun W (b : Below W1.heap.size W1 W) => refSize_any n ka va ia kc vc ic W (hna.below b) hb)
  rw [fmr_false] at H1
  have hsl := siz_le hb
  have HA := hide hA
  have HG := hide hg
  have HS := hide (show (if hfv n then (if kok n.keys then (if 480 < n.siz then 102 else 0) else 101) else 100 : Nat) = wrv n from rfl)
  obtain ⟨d0, d1, d2, d3⟩ := box4 hg (Below.refl _ _) hz
  clear h hA hb hna hg ci hic
  unfold nda at *
  generalize wrv n = wv at *
  generalize hfv n = f1 at *
  generalize kok n.keys = f2 at *
  generalize n.siz = sz at *
  generalize n.leaf = lf at *
  generalize n.keys.length = kl at *
  generalize n.vals.length = vl at *
  generalize n.kids.length = il at *
  go_enter Tryz.func75, Tryz.ntmps75
  go_wp2_with fail
  refine (unhide H1).mono ?_
  rintro e w1 ⟨rfl, b1⟩
  clear d0 d1 d2 d3 hW H1
  obtain ⟨d0, d1, d2, d3⟩ := box4 (unhide HG) b1 hz
  have hz1 := Nat.lt_of_lt_of_le hz b1.size
  have x2 := hide (unhide H2 w1 b1)
  have B1 := hide b1
  clear b1 H2
  cases f1
  · have hs := unhide HS
    simp only [Bool.false_eq_true, if_false] at hs
    subst hs
    go_wp2
    go_ret
    exact ⟨rfl, (unhide HA).trans ((unhide B1).mono (unhide HA).size)⟩
  · go_wp2_with fail
    refine (unhide x2).mono ?_
    rintro e w2 ⟨rfl, q, rfl⟩
    have B2 := hide (bel_q (unhide B1) q)
    have x3 := hide (unhide H3 _ (unhide B2))
    clear x2 H3
    cases f2
    · have hs := unhide HS
      simp only [Bool.false_eq_true, if_false, if_true] at hs
      subst hs
      go_wp2
      go_ret
      exact ⟨rfl, (unhide HA).trans ((unhide B2).mono (unhide HA).size)⟩
    · go_wp2_with fail
      refine (unhide x3).mono ?_
      rintro e w3 ⟨rfl, b3⟩
      have B3 := hide ((unhide HA).trans (((unhide B2).trans (b3.mono (unhide B2).size)).mono (unhide HA).size))
      clear b3 x3
      by_cases h4 : 480 < sz
      · have h4' : (480 : Int) < (sz : Int) := by omega
        have hs := unhide HS
        simp only [if_true, h4] at hs
        subst hs
        go_wp2
        go_ret
        exact ⟨rfl, unhide B3⟩
      · have h4' : ¬ (480 : Int) < (sz : Int) := by omega
        have hs := unhide HS
        simp only [if_true, h4, if_false] at hs
        subst hs
        go_wp2
        go_ret
        exact ⟨rfl, unhide B3⟩
end Go.Proofs.YtllialbdofklgaaGreatDoor
namespace Go.Proofs.YtllialbdofklgaaGreatDoor
open Go.RowKit
set_option maxHeartbeats 4000000
set_option maxRecDepth 8000
theorem be1 (n : Nat) : be 1 n = [UInt8.ofNat n] := by simp [be]
theorem cat_bs (a b : Bs) : (ByteArray.mk a.toArray ++ ByteArray.mk b.toArray) = ⟨(a ++ b).toArray⟩ := by
  apply ByteArray.ext
  simp
theorem cat_val (a b : Bs) : Value.string (ByteArray.mk a.toArray ++ ByteArray.mk b.toArray) = S (a ++ b) := congrArg Value.string (cat_bs a b)
/-- The document's short 76. -/
theorem short_ref (s : Bs) (w : World) (hs : s.length ≤ 4294967296) : Calls Tryz.prog 76 #[S s] w fun e w' => e = .returned (S (lay1 s)) ∧ Below w.heap.size w w' := by
  have h1 : ((s.length : Int) % 256) = ((UInt8.ofNat s.length).toNat : Int) := by rw [UInt8.toNat_ofNat']; omega
  have ba := (Below.refl w.heap.size w).alloc (Nat.le_refl _) (.cells #[B (UInt8.ofNat s.length)] 5)
  have HB := hide ba
  have hz := heap_alloc_new w (.cells #[B (UInt8.ofNat s.length)] 5)
  have HT := hide (run_text (w.alloc (.cells #[B (UInt8.ofNat s.length)] 5)) w.heap.size 0 1 1 [UInt8.ofNat s.length] rfl (by
    intro j hj
    rw [Nat.zero_add, cell_of_row _ _ j _ 5 (0, 0) hz]
    match j, hj with
    | 0, _ => rfl))
  have HE := hide (show lay1 s = [UInt8.ofNat s.length] ++ s from by unfold lay1; rw [be1])
  have hcat : ¬ 9223372036854775807 < 1 + s.length := by omega
  clear ba hz
  generalize UInt8.ofNat s.length = a at *
  go_enter Tryz.func76, Tryz.ntmps76
  go_wp2_with (refine wpList_conv rfl 79 9 (.tmp 6) rfl _ _ (by rfl) (unhide HT) ?_)
  go_ret
  refine ⟨?_, unhide HB⟩
  rw [unhide HE, ← cat_val]
  rfl
end Go.Proofs.YtllialbdofklgaaGreatDoor
namespace Go.Proofs.YtllialbdofklgaaGreatDoor
open Go.RowKit
set_option linter.unusedVariables false
set_option maxHeartbeats 8000000
set_option maxRecDepth 8000
theorem ext_bs (s : Bs) (i j : Nat) : (ByteArray.mk s.toArray).extract i j = ⟨((s.take j).drop i).toArray⟩ := by
  apply ByteArray.ext
  apply Array.ext'
  simp [ByteArray.data_extract, List.drop_take]
theorem sl_mid (a : UInt8) (r : Bs) (h : a.toNat ≤ r.length) (W : World) : (Instr.slice 9 (S (a :: r)) (some (.int .i64 1)) (some (.int .i64 (1 + (a.toNat : Int)))) none).run Tryz.prog W = .ok (S (r.take a.toNat)) W := by
  have h1 : (1 : Int) + (a.toNat : Int) ≤ (r.length : Int) + 1 := by omega
  have h3 : ((1 : Int) + (a.toNat : Int)).toNat = a.toNat + 1 := by omega
  have h4 : (0 : Int) ≤ 1 + (a.toNat : Int) := by omega
  simp [Instr.slice, go_sem, h1, h3, h4, ext_bs]
  intro q
  omega
theorem sl_end (a : UInt8) (r : Bs) (h : a.toNat ≤ r.length) (W : World) : (Instr.slice 9 (S (a :: r)) (some (.int .i64 (1 + (a.toNat : Int)))) none none).run Tryz.prog W = .ok (S (r.drop a.toNat)) W := by
  have h1 : (1 : Int) + (a.toNat : Int) ≤ (r.length : Int) + 1 := by omega
  have h3 : ((1 : Int) + (a.toNat : Int)).toNat = a.toNat + 1 := by omega
  have h4 : (0 : Int) ≤ 1 + (a.toNat : Int) := by omega
  simp [Instr.slice, go_sem, h1, h3, h4, ext_bs]
/-- A short text off the front. -/
def ct (s : Bs) : Option (Bs × Bs) := match s with
  | [] => none
  | a :: r => if r.length < a.toNat then none else some (r.take a.toNat, r.drop a.toNat)
theorem ct_back {s x y : Bs} (h : ct s = some (x, y)) : s = lay1 x ++ y ∧ x.length ≤ 255 := by
  cases s with
  | nil => cases h
  | cons a r =>
    unfold ct at h
    simp only at h
    split at h
    · cases h
    · next hl =>
      injection h with h
      injection h with h1 h2
      have ha : a.toNat ≤ 255 := by have := a.toNat_lt; omega
      have hx : x.length = a.toNat := by rw [← h1, List.length_take]; omega
      refine ⟨?_, by omega⟩
      unfold lay1
      rw [be1, hx, ← h1, ← h2]
      simp
theorem ct_laid (x y : Bs) (h : x.length ≤ 255) : ct (lay1 x ++ y) = some (x, y) := by
  unfold lay1
  rw [be1]
  unfold ct
  simp only [List.cons_append, List.nil_append]
  have e : (UInt8.ofNat x.length).toNat = x.length := by rw [UInt8.toNat_ofNat']; omega
  rw [e, if_neg (by simp)]
  simp
def ctv (s : Bs) : Value := match ct s with
  | none => .tuple #[S [], S [], .bool false]
  | some (x, y) => .tuple #[S x, S y, .bool true]
theorem cut_ref (s : Bs) (w : World) (hs : s.length ≤ 4294967296) : Calls Tryz.prog 77 #[S s] w fun e w' => e = .returned (ctv s) ∧ ∃ q, w' = w.drewN q := by
  cases s with
  | nil =>
    go_enter Tryz.func77, Tryz.ntmps77
    go_wp2
    refine bodyPost_ret (results_tmp3 rfl _ _ _) rfl ?_
    exact ⟨rfl, 0, rfl⟩
  | cons a r =>
    have hv : ctv (a :: r) = if r.length < a.toNat then .tuple #[S [], S [], .bool false] else .tuple #[S (r.take a.toNat), S (r.drop a.toNat), .bool true] := by
      unfold ctv ct
      split <;> simp_all
    have h1 : ¬ ((a :: r : Bs) = []) := by simp
    have hl : (a :: r).length = r.length + 1 := rfl
    have hix : ∀ q, (ByteArray.mk (a :: r).toArray)[0]'q = a := fun q => rfl
    have hwr : wrap64 ((a.toNat : Nat) : Int) = (a.toNat : Int) := by
      have := a.toNat_lt
      unfold wrap64
      omega
    by_cases h : r.length < a.toNat
    · rw [hv, if_pos h]
      have h2 : ((r.length : Int) < (a.toNat : Int)) := by omega
      go_enter Tryz.func77, Tryz.ntmps77
      go_wp2
      refine bodyPost_ret (results_tmp3 rfl _ _ _) rfl ?_
      exact ⟨rfl, 0, rfl⟩
    · rw [hv, if_neg h]
      have h2 : ¬ ((r.length : Int) < (a.toNat : Int)) := by omega
      go_enter Tryz.func77, Tryz.ntmps77
      have s1 := fun W => sl_mid a r (by omega) W
      have s2 := fun W => sl_end a r (by omega) W
      go_wp2
      generalize hX : r.take a.toNat = X at *
      generalize hY : r.drop a.toNat = Y at *
      have HXY := hide (And.intro hX hY)
      clear hX hY
      go_quiet (fail)
      go_wp2
      refine bodyPost_ret (results_tmp3 rfl _ _ _) rfl ?_
      exact ⟨by rw [(unhide HXY).1, (unhide HXY).2]; rfl, _, rfl⟩
end Go.Proofs.YtllialbdofklgaaGreatDoor
namespace Go.Proofs.YtllialbdofklgaaGreatDoor
open Go.RowKit
theorem lay1_inj {a b s t : Bs} (ha : a.length ≤ 255) (hb : b.length ≤ 255) (h : lay1 a ++ s = lay1 b ++ t) : a = b ∧ s = t := by
  have h1 := ct_laid a s ha
  rw [h, ct_laid b t hb] at h1
  injection h1 with h1
  injection h1 with h1 h2
  exact ⟨h1.symm, h2.symm⟩
theorem entL_pre : ∀ (K V ks vs : List Bs) (rest : Bs), K.length = V.length → vs.length = ks.length → K.length ≤ ks.length → (∀ a ∈ K, a.length ≤ 255) → (∀ a ∈ V, a.length ≤ 255) → (∀ a ∈ ks, a.length ≤ 255) → (∀ a ∈ vs, a.length ≤ 255) →
    entL K V ++ rest = entL ks vs → K = ks.take K.length ∧ V = vs.take K.length ∧ rest = entL (ks.drop K.length) (vs.drop K.length)
  | [], [], ks, vs, rest, _, _, _, _, _, _, _, h => ⟨rfl, rfl, by simpa [entL] using h⟩
  | [], _ :: _, _, _, _, h, _, _, _, _, _, _, _ => by simp at h
  | _ :: _, [], _, _, _, h, _, _, _, _, _, _, _ => by simp at h
  | _ :: _, _ :: _, [], _, _, _, _, h, _, _, _, _, _ => by simp at h
  | _ :: _, _ :: _, _ :: _, [], _, _, h, _, _, _, _, _, _ => by simp at h
  | a :: K, b :: V, c :: ks, d :: vs, rest, h1, h2, h3, s1, s2, s3, s4, h => by
    simp only [entL, List.append_assoc] at h
    obtain ⟨e1, h⟩ := lay1_inj (s1 a (by simp)) (s3 c (by simp)) h
    obtain ⟨e2, h⟩ := lay1_inj (s2 b (by simp)) (s4 d (by simp)) h
    obtain ⟨r1, r2, r3⟩ := entL_pre K V ks vs rest (by simpa using h1) (by simpa using h2) (by simpa using h3) (fun x hx => s1 x (by simp [hx])) (fun x hx => s2 x (by simp [hx])) (fun x hx => s3 x (by simp [hx])) (fun x hx => s4 x (by simp [hx])) h
    subst e1 e2
    refine ⟨?_, ?_, by simpa using r3⟩
    · simp only [List.length_cons, List.take_succ_cons]; rw [← r1]
    · simp only [List.length_cons, List.take_succ_cons]; rw [← r2]
theorem entI_pre : ∀ (K ks : List Bs) (rest : Bs), K.length ≤ ks.length → (∀ a ∈ K, a.length ≤ 255) → (∀ a ∈ ks, a.length ≤ 255) →
    entI K ++ rest = entI ks → K = ks.take K.length ∧ rest = entI (ks.drop K.length)
  | [], ks, rest, _, _, _, h => ⟨rfl, by simpa [entI] using h⟩
  | _ :: _, [], _, h, _, _, _ => by simp at h
  | a :: K, c :: ks, rest, h3, s1, s3, h => by
    simp only [entI, List.append_assoc] at h
    obtain ⟨e1, h⟩ := lay1_inj (s1 a (by simp)) (s3 c (by simp)) h
    obtain ⟨r1, r3⟩ := entI_pre K ks rest (by simpa using h3) (fun x hx => s1 x (by simp [hx])) (fun x hx => s3 x (by simp [hx])) h
    subst e1
    refine ⟨?_, by simpa using r3⟩
    simp only [List.length_cons, List.take_succ_cons]; rw [← r1]
/-- What has been read so far. -/
structure PI (lf : Bool) (c : UInt8) (tl : Bs) (i : Nat) (K V : List Bs) (rest : Bs) : Prop where
  eq : tl = (if lf then entL K V else entI K) ++ rest
  le : i ≤ c.toNat
  lk : K.length = i
  lv : V.length = if lf then i else 0
  sk : ∀ a ∈ K, a.length ≤ 255
  sv : ∀ a ∈ V, a.length ≤ 255
theorem PI.start (lf : Bool) (c : UInt8) (tl : Bs) : PI lf c tl 0 [] [] tl := ⟨by cases lf <;> rfl, Nat.zero_le _, rfl, by cases lf <;> rfl, (fun _ h => nomatch h), (fun _ h => nomatch h)⟩
theorem PI.stepL {c : UInt8} {tl : Bs} {i : Nat} {K V : List Bs} {rest a r1 b r2 : Bs} (h : PI true c tl i K V rest) (hi : i < c.toNat) (h1 : ct rest = some (a, r1)) (h2 : ct r1 = some (b, r2)) : PI true c tl (i + 1) (K ++ [a]) (V ++ [b]) r2 := by
  obtain ⟨e1, l1⟩ := ct_back h1
  obtain ⟨e2, l2⟩ := ct_back h2
  have hv := h.lv
  rw [if_pos rfl] at hv
  refine ⟨?_, hi, by simp [h.lk], by simp [hv], ?_, ?_⟩
  · rw [h.eq, if_pos rfl, if_pos rfl, entL_snoc a b K V (by rw [h.lk, hv]), e1, e2]
    simp
  · intro x hx
    rcases List.mem_append.1 hx with q | q
    · exact h.sk x q
    · rw [List.mem_singleton.1 q]; exact l1
  · intro x hx
    rcases List.mem_append.1 hx with q | q
    · exact h.sv x q
    · rw [List.mem_singleton.1 q]; exact l2
theorem PI.stepI {c : UInt8} {tl : Bs} {i : Nat} {K V : List Bs} {rest a r1 : Bs} (h : PI false c tl i K V rest) (hi : i < c.toNat) (h1 : ct rest = some (a, r1)) : PI false c tl (i + 1) (K ++ [a]) V r1 := by
  obtain ⟨e1, l1⟩ := ct_back h1
  refine ⟨?_, hi, by simp [h.lk], h.lv, ?_, h.sv⟩
  · rw [h.eq, if_neg (by decide), if_neg (by decide), entI_snoc, e1]
    simp
  · intro x hx
    rcases List.mem_append.1 hx with q | q
    · exact h.sk x q
    · rw [List.mem_singleton.1 q]; exact l1
theorem mem_len {l : List Bs} {m : Nat} (h : ∀ j, (l.getD j []).length ≤ m) : ∀ a ∈ l, a.length ≤ m := by
  intro a ha
  obtain ⟨j, hj, e⟩ := List.getElem_of_mem ha
  have := h j
  rw [List.getD_eq_getElem?_getD, List.getElem?_eq_getElem hj] at this
  simpa [e] using this
/-- Where the page is right, what is read is the node's. -/
theorem PI.okL {c : UInt8} {tl : Bs} {i : Nat} {K V : List Bs} {rest : Bs} {L : List Int} (h : PI true c tl i K V rest) (hp : pok 1 L (c :: tl) = true) :
    c.toNat = (pnd 1 L (c :: tl)).keys.length ∧ (pnd 1 L (c :: tl)).vals.length = (pnd 1 L (c :: tl)).keys.length ∧ K = (pnd 1 L (c :: tl)).keys.take i ∧ V = (pnd 1 L (c :: tl)).vals.take i ∧ rest = entL ((pnd 1 L (c :: tl)).keys.drop i) ((pnd 1 L (c :: tl)).vals.drop i) := by
  obtain ⟨b1, b2, b3, b4⟩ := back 1 L (c :: tl) hp
  have hlf : (pnd 1 L (c :: tl)).leaf = true := by unfold pnd; rw [if_neg (by decide)]
  generalize pnd 1 L (c :: tl) = n at *
  obtain ⟨r1, r2, r3, r4, -⟩ := wrv_ok b1
  have hv := r4 hlf
  have hb : pvb n = be 1 n.keys.length ++ entL n.keys n.vals := by unfold pvb; rw [if_pos b1]; exact bdy_leaf n hlf hv
  rw [hb, be1, List.singleton_append] at b4
  injection b4 with e1 e2
  have hc : c.toNat = n.keys.length := by rw [← e1, UInt8.toNat_ofNat']; omega
  have hvl := h.lv
  rw [if_pos rfl] at hvl
  have he := h.eq
  rw [if_pos rfl, ← e2] at he
  obtain ⟨q1, q2, q3⟩ := entL_pre K V n.keys n.vals rest (by rw [h.lk, hvl]) hv (by rw [h.lk, ← hc]; exact h.le) h.sk h.sv (fun a ha => by have := mem_len r1 a ha; omega) (fun a ha => by have := mem_len r2 a ha; omega) he.symm
  rw [h.lk] at q1 q2 q3
  exact ⟨hc, hv, q1, q2, q3⟩
theorem PI.okI {c : UInt8} {tl : Bs} {i : Nat} {K V : List Bs} {rest : Bs} {L : List Int} (h : PI false c tl i K V rest) (hp : pok 2 L (c :: tl) = true) :
    c.toNat = (pnd 2 L (c :: tl)).keys.length ∧ K = (pnd 2 L (c :: tl)).keys.take i ∧ rest = entI ((pnd 2 L (c :: tl)).keys.drop i) := by
  obtain ⟨b1, b2, b3, b4⟩ := back 2 L (c :: tl) hp
  have hlf : (pnd 2 L (c :: tl)).leaf = false := by unfold pnd; rw [if_pos rfl]
  generalize pnd 2 L (c :: tl) = n at *
  obtain ⟨r1, r2, r3, r4, -⟩ := wrv_ok b1
  have hb : pvb n = be 1 n.keys.length ++ entI n.keys := by unfold pvb; rw [if_pos b1]; exact bdy_inner n hlf
  rw [hb, be1, List.singleton_append] at b4
  injection b4 with e1 e2
  have hc : c.toNat = n.keys.length := by rw [← e1, UInt8.toNat_ofNat']; omega
  have he := h.eq
  rw [if_neg (by decide), ← e2] at he
  obtain ⟨q1, q3⟩ := entI_pre K n.keys rest (by rw [h.lk, ← hc]; exact h.le) h.sk (fun a ha => by have := mem_len r1 a ha; omega) he.symm
  rw [h.lk] at q1 q3
  exact ⟨hc, q1, q3⟩
end Go.Proofs.YtllialbdofklgaaGreatDoor
namespace Go.Proofs.YtllialbdofklgaaGreatDoor
open Go.RowKit
theorem fls2 {b : Bool} (h : b = true → False) : b = false := by cases b; rfl; exact (h rfl).elim
theorem PI.failL {c : UInt8} {tl : Bs} {i : Nat} {K V : List Bs} {rest : Bs} {L : List Int} (h : PI true c tl i K V rest) (hi : i < c.toNat) (hf : ct rest = none ∨ ∃ a r1, ct rest = some (a, r1) ∧ ct r1 = none) : pok 1 L (c :: tl) = false := by
  refine fls2 fun hp => ?_
  obtain ⟨h1, h2, -, -, h5⟩ := h.okL hp
  obtain ⟨b1, -, -, -⟩ := back 1 L (c :: tl) hp
  generalize pnd 1 L (c :: tl) = n at *
  obtain ⟨r1, r2, -, -, -⟩ := wrv_ok b1
  rw [drop_at _ _ (show i < n.keys.length by omega), drop_at _ _ (show i < n.vals.length by omega)] at h5
  simp only [entL] at h5
  have c1 := ct_laid (n.keys.getD i []) (lay1 (n.vals.getD i []) ++ entL (n.keys.drop (i + 1)) (n.vals.drop (i + 1))) (by have := r1 i; omega)
  have c2 := ct_laid (n.vals.getD i []) (entL (n.keys.drop (i + 1)) (n.vals.drop (i + 1))) (by have := r2 i; omega)
  rw [← h5] at c1
  rcases hf with q | ⟨a, r, q1, q2⟩
  · rw [c1] at q; cases q
  · rw [c1] at q1
    injection q1 with q1
    injection q1 with e1 e2
    rw [← e2, c2] at q2
    cases q2
theorem PI.failI {c : UInt8} {tl : Bs} {i : Nat} {K V : List Bs} {rest : Bs} {L : List Int} (h : PI false c tl i K V rest) (hi : i < c.toNat) (hf : ct rest = none) : pok 2 L (c :: tl) = false := by
  refine fls2 fun hp => ?_
  obtain ⟨h1, -, h5⟩ := h.okI hp
  obtain ⟨b1, -, -, -⟩ := back 2 L (c :: tl) hp
  generalize pnd 2 L (c :: tl) = n at *
  obtain ⟨r1, -, -, -, -⟩ := wrv_ok b1
  rw [drop_at _ _ (show i < n.keys.length by omega)] at h5
  simp only [entI] at h5
  have c1 := ct_laid (n.keys.getD i []) (entI (n.keys.drop (i + 1))) (by have := r1 i; omega)
  rw [← h5, hf] at c1
  cases c1
theorem ofNat_toNat (c : UInt8) : UInt8.ofNat c.toNat = c := by simp
theorem PI.doneL {c : UInt8} {tl : Bs} {K V : List Bs} {rest : Bs} {L : List Int} (h : PI true c tl c.toNat K V rest) :
    pok 1 L (c :: tl) = (decide (rest = []) && decide (wrv ⟨true, K, V, L⟩ = 0)) ∧ (pok 1 L (c :: tl) = true → pnd 1 L (c :: tl) = ⟨true, K, V, L⟩) := by
  have fwd : pok 1 L (c :: tl) = true → pnd 1 L (c :: tl) = ⟨true, K, V, L⟩ ∧ rest = [] := fun hp => by
    obtain ⟨h1, h2, h3, h4, h5⟩ := h.okL hp
    obtain ⟨b1, b2, b3, b4⟩ := back 1 L (c :: tl) hp
    have hlf : (pnd 1 L (c :: tl)).leaf = true ∧ (pnd 1 L (c :: tl)).kids = [] := by unfold pnd; rw [if_neg (by decide)]; exact ⟨rfl, rfl⟩
    generalize pnd 1 L (c :: tl) = n at *
    obtain ⟨hl, hk⟩ := hlf
    unfold pvl at b3
    rw [if_pos b1, hl, if_pos rfl] at b3
    rw [h1, List.take_length] at h3
    rw [h1, ← h2, List.take_length] at h4
    rw [h1] at h5
    obtain ⟨lf, ks, vs, is⟩ := n
    simp only at *
    subst hl hk h3 h4 b3
    refine ⟨rfl, ?_⟩
    rw [h5]
    simp [entL]
  refine ⟨?_, fun hp => (fwd hp).1⟩
  by_cases hq : rest = [] ∧ wrv ⟨true, K, V, L⟩ = 0
  · obtain ⟨q1, q2⟩ := hq
    rw [q1, q2]
    obtain ⟨t1, -⟩ := there ⟨true, K, V, L⟩ q2
    obtain ⟨f1, -, -⟩ := wrv_form q2
    have hL : L = [] := by
      unfold hfv agv agl at f1
      simp at f1
      exact f1.2.1.2
    have hvl := h.lv
    rw [if_pos rfl] at hvl
    have e1 : pvk ⟨true, K, V, L⟩ = 1 := by unfold pvk; rw [if_pos q2]; rfl
    have e2 : pvl ⟨true, K, V, L⟩ = L := by unfold pvl; rw [if_pos q2, hL]; rfl
    have e3 : pvb ⟨true, K, V, L⟩ = c :: tl := by
      unfold pvb
      rw [if_pos q2, bdy_leaf _ rfl (by show V.length = K.length; rw [hvl, h.lk]), be1]
      show [UInt8.ofNat K.length] ++ entL K V = c :: tl
      rw [h.lk, ofNat_toNat, h.eq, if_pos rfl, q1]
      simp
    rw [e1, e2, e3] at t1
    rw [t1]
    simp
  · have : pok 1 L (c :: tl) = false := fls2 fun hp => by
      obtain ⟨e1, e2⟩ := fwd hp
      obtain ⟨b1, -, -, -⟩ := back 1 L (c :: tl) hp
      rw [e1] at b1
      exact hq ⟨e2, b1⟩
    rw [this]
    by_cases q1 : rest = []
    · have q2 : ¬ wrv ⟨true, K, V, L⟩ = 0 := fun q => hq ⟨q1, q⟩
      rw [decide_eq_false q2, Bool.and_false]
    · rw [decide_eq_false q1, Bool.false_and]
theorem PI.doneI {c : UInt8} {tl : Bs} {K V : List Bs} {rest : Bs} {L : List Int} (h : PI false c tl c.toNat K V rest) :
    pok 2 L (c :: tl) = (decide (rest = []) && decide (wrv ⟨false, K, V, L⟩ = 0)) ∧ (pok 2 L (c :: tl) = true → pnd 2 L (c :: tl) = ⟨false, K, V, L⟩) := by
  have hV : V = [] := by have := h.lv; simpa using this
  subst hV
  have fwd : pok 2 L (c :: tl) = true → pnd 2 L (c :: tl) = ⟨false, K, [], L⟩ ∧ rest = [] := fun hp => by
    obtain ⟨h1, h3, h5⟩ := h.okI hp
    obtain ⟨b1, b2, b3, b4⟩ := back 2 L (c :: tl) hp
    have hlf : (pnd 2 L (c :: tl)).leaf = false ∧ (pnd 2 L (c :: tl)).kids = L ∧ (pnd 2 L (c :: tl)).vals = [] := by unfold pnd; rw [if_pos rfl]; exact ⟨rfl, rfl, rfl⟩
    generalize pnd 2 L (c :: tl) = n at *
    obtain ⟨hl, hk, hv⟩ := hlf
    rw [h1, List.take_length] at h3
    rw [h1] at h5
    obtain ⟨lf, ks, vs, is⟩ := n
    simp only at *
    subst hl hk h3 hv
    refine ⟨rfl, ?_⟩
    rw [h5]
    simp [entI]
  refine ⟨?_, fun hp => (fwd hp).1⟩
  by_cases hq : rest = [] ∧ wrv ⟨false, K, [], L⟩ = 0
  · obtain ⟨q1, q2⟩ := hq
    rw [q1, q2]
    obtain ⟨t1, -⟩ := there ⟨false, K, [], L⟩ q2
    have e1 : pvk ⟨false, K, [], L⟩ = 2 := by unfold pvk; rw [if_pos q2]; rfl
    have e2 : pvl ⟨false, K, [], L⟩ = L := by unfold pvl; rw [if_pos q2]; rfl
    have e3 : pvb ⟨false, K, [], L⟩ = c :: tl := by
      unfold pvb
      rw [if_pos q2, bdy_inner _ rfl, be1]
      show [UInt8.ofNat K.length] ++ entI K = c :: tl
      rw [h.lk, ofNat_toNat, h.eq, if_neg (by decide), q1]
      simp
    rw [e1, e2, e3] at t1
    rw [t1]
    simp
  · have : pok 2 L (c :: tl) = false := fls2 fun hp => by
      obtain ⟨e1, e2⟩ := fwd hp
      obtain ⟨b1, -, -, -⟩ := back 2 L (c :: tl) hp
      rw [e1] at b1
      exact hq ⟨e2, b1⟩
    rw [this]
    by_cases q1 : rest = []
    · have q2 : ¬ wrv ⟨false, K, [], L⟩ = 0 := fun q => hq ⟨q1, q⟩
      rw [decide_eq_false q2, Bool.and_false]
    · rw [decide_eq_false q1, Bool.false_and]
theorem pok_nil (k : Int) (L : List Int) : pok k L [] = false := by
  refine fls2 fun hp => ?_
  obtain ⟨b1, -, -, b4⟩ := back k L [] hp
  unfold pvb at b4
  rw [if_pos b1] at b4
  have := congrArg List.length b4
  cases hl : (pnd k L []).leaf
  · rw [bdy_inner _ hl, be1] at this
    simp at this
  · obtain ⟨-, -, -, r4, -⟩ := wrv_ok b1
    rw [bdy_leaf _ hl (r4 hl), be1] at this
    simp at this
theorem pok_kind {k : Int} {L : List Int} {x : Bs} (h1 : k ≠ 1) (h2 : k ≠ 2) : pok k L x = false := by
  unfold pok isn
  simp [h1, h2]
/-- What Parse tells. -/
def prs (k : Int) (L : List Int) (x : Bs) : Nd := if pok k L x then pnd k L x else ⟨false, [], [], []⟩
def per (k : Int) (L : List Int) (x : Bs) : Nat := if pok k L x then 0 else 100
end Go.Proofs.YtllialbdofklgaaGreatDoor
namespace Go.Proofs.YtllialbdofklgaaGreatDoor
open Go.RowKit
set_option linter.unusedVariables false
set_option maxHeartbeats 16000000
set_option maxRecDepth 8000
/-- The document's Page 44. -/
theorem refPage_any (n : Nd) (ka va ia : Option Addr) (kc vc ic : Nat) (w : World) (h : NA n ka va ia w) (hb : NB n) (z3 : ia = none → ic = 0) (ci : n.kids.length ≤ ic) (hic : ic ≤ 9223372036854775807) :
    Calls Tryz.prog 44 #[nda n ka va ia kc vc ic] w fun e w' => ∃ p c, e = .returned (.tuple #[.agg #[I (pvk n), I 0, I 0, .slice p (pvl n).length c, S (pvb n)], I (wrv n)]) ∧ w'.ownsRow 0 3 1 (.slice p (pvl n).length c) (pvl n).length ((pvl n).map fun z => I z) ∧ Below w.heap.size w w' := by
  have hA := (Below.refl w.heap.size w).alloc (Nat.le_refl _) (.cells #[.bool n.leaf, .slice ka n.keys.length kc, .slice va n.vals.length vc, .slice ia n.kids.length ic] 25)
  have hg := heap_alloc_new w (.cells #[.bool n.leaf, .slice ka n.keys.length kc, .slice va n.vals.length vc, .slice ia n.kids.length ic] 25)
  have hs0 := size_alloc w (.cells #[.bool n.leaf, .slice ka n.keys.length kc, .slice va n.vals.length vc, .slice ia n.kids.length ic] 25)
  generalize hW0 : w.alloc (.cells #[.bool n.leaf, .slice ka n.keys.length kc, .slice va n.vals.length vc, .slice ia n.kids.length ic] 25) = W0 at hA hg hs0
  have hA2 := hA.alloc hA.size (.cells #[I 0, I 0, I 0, .slice none 0 0, S []] 27)
  have hp := heap_alloc_new W0 (.cells #[I 0, I 0, I 0, .slice none 0 0, S []] 27)
  have hg2 := (alloc_old W0 (.cells #[I 0, I 0, I 0, .slice none 0 0, S []] 27) (lt_of_row hg)).trans hg
  have hs1 := size_alloc W0 (.cells #[I 0, I 0, I 0, .slice none 0 0, S []] 27)
  generalize hW1 : W0.alloc (.cells #[I 0, I 0, I 0, .slice none 0 0, S []] 27) = W1 at hA2 hp hg2 hs1
  have X1 := hide (refWrong_any n ka va ia kc vc ic W1 (h.below hA2) hb ci hic)
  have HN := hide (fun W (q : Below W1.heap.size W1 W) => (h.below hA2).below q)
  have HA := hide hA2
  have HP := hide hp
  have HG := hide hg2
  have HX := hide (show W0.heap.size = w.heap.size + 1 ∧ W1.heap.size = W0.heap.size + 1 from ⟨hs0, hs1⟩)
  have HI := hide (And.intro hb.i z3)
  have hz : w.heap.size < W1.heap.size := by omega
  have hz1 : W0.heap.size < W1.heap.size := by omega
  obtain ⟨c0, c1, c2, c3⟩ := box4 hg2 (Below.refl _ _) hz
  unfold nda at X1 ⊢
  clear hA hg hs0 hA2 hp hg2 hs1 h hb z3 ci hic
  have hwl : wrv n ≤ 102 := by unfold wrv; split <;> (try split) <;> (try split) <;> omega
  by_cases hw : wrv n = 0
  · obtain ⟨r1, r2, r3, r4, r5⟩ := wrv_ok hw
    have e1 : pvk n = if n.leaf then 1 else 2 := by unfold pvk; rw [if_pos hw]
    have e2 : pvb n = bdn n n.keys.length := by unfold pvb; rw [if_pos hw]; rfl
    have e3 : pvl n = n.kids := by
      unfold pvl
      rw [if_pos hw]
      cases hl : n.leaf
      · rfl
      · obtain ⟨f1, -, -⟩ := wrv_form hw
        unfold hfv agv agl at f1
        rw [hl] at f1
        simp at f1
        simpa using f1.2.1.2.symm
    rw [e1, e2, e3]
    have HBL := hide (bdn_len n r1 r2)
    have h0 : bdn n 0 = be 1 n.keys.length := rfl
    have HS := hide (show ∀ j, bdn n (j + 1) = bdn n j ++ (lay1 (n.keys.getD j []) ++ (if n.leaf = true then lay1 (n.vals.getD j []) else [])) from fun j => rfl)
    have HR := hide (And.intro r1 (And.intro r2 (And.intro r3 r4)))
    rw [hw] at X1 ⊢
    clear hwl hw r1 r2 r4 r5 e1 e2 e3
    have HK := hide (fun W (q : Below W1.heap.size W1 W) => ((unhide HN) W q).ks)
    have HV := hide (fun W (q : Below W1.heap.size W1 W) => ((unhide HN) W q).vs)
    have HJ := hide (fun W (q : Below W1.heap.size W1 W) => ((unhide HN) W q).is)
    clear HN
    generalize bdn n = D at *
    generalize n.keys = ks at *
    generalize n.vals = vs at *
    generalize n.kids = is at *
    generalize n.leaf = lf at *
    clear n
    have q1 : ((ks.length : Int) % 256) = ((UInt8.ofNat ks.length).toNat : Int) := by rw [UInt8.toNat_ofNat']; omega
    have hD0 : D 0 = [UInt8.ofNat ks.length] := by rw [h0, be1]
    have HD0 := hide hD0
    clear h0 hD0 r3
    go_enter Tryz.func44, Tryz.ntmps44
    go_wp2_with fail
    refine (unhide X1).mono ?_
    rintro e w1 ⟨rfl, b1⟩
    clear c0 c1 c2 c3 X1 hW0 hW1
    obtain ⟨c0, c1, c2, c3⟩ := box4 (unhide HG) b1 hz
    have zl := Nat.lt_of_lt_of_le hz b1.size
    have ba := (Below.refl w1.heap.size w1).alloc (Nat.le_refl _) (.cells #[B (UInt8.ofNat ks.length)] 5)
    have hz5 := heap_alloc_new w1 (.cells #[B (UInt8.ofNat ks.length)] 5)
    have HT := hide (run_text (w1.alloc (.cells #[B (UInt8.ofNat ks.length)] 5)) w1.heap.size 0 1 1 [UInt8.ofNat ks.length] rfl (by
      intro j hj
      rw [Nat.zero_add, cell_of_row _ _ j _ 5 (0, 0) hz5]
      match j, hj with
      | 0, _ => rfl))
    have HB1 := hide (b1.trans (ba.mono b1.size))
    clear ba hz5 b1
    generalize UInt8.ofNat ks.length = a at *
    go_wp2_with (refine wpList_conv rfl 79 9 (.tmp 18) rfl _ _ (by rfl) (unhide HT) ?_)
    clear c0 c1 c2 c3 zl
    go_loopw [5, 6] (fun v i wr => ∃ k : Nat, k ≤ ks.length ∧ i = .int .i64 k ∧ v = S (D k) ∧ Below W1.heap.size W1 wr) (fun _ i _ => ks.length - (Go.RowKit.intOf i).toNat)
    case atStart => exact ⟨0, by omega, rfl, by rw [unhide HD0], unhide HB1⟩
    case round =>
    clear HB1 HT
    obtain ⟨k, hk1, rfl, rfl, hbw⟩ := hrel
    have HBW := hide hbw
    obtain ⟨c0, c1, c2, c3⟩ := box4 (unhide HG) hbw hz
    have zl := Nat.lt_of_lt_of_le hz hbw.size
    by_cases hlt : k < ks.length
    · have hlt' : (k : Int) < (ks.length : Int) := by omega
      obtain ⟨R1, R2, R3, R4⟩ := unhide HR
      have hk36 := R1 k
      have hv20 := R2 k
      have hDl := unhide HBL k
      obtain ⟨gk, ok, rfl, gkl, gkc⟩ := (unhide HK wr hbw).at hlt
      have HS1 := hide (unhide HS k)
      have x1 := hide (short_ref (ks.getD k []) wr (by omega))
      have HR4 := hide R4
      clear hbw R1 R2 R4
      generalize hkd : ks.getD k [] = kk at *
      clear hkd
      go_wp2_with fail
      refine (unhide x1).mono ?_
      rintro e w2 ⟨rfl, b2⟩
      clear x1 c0 c1 c2 c3 zl gkl gkc
      have b12 := (unhide HBW).trans (b2.mono (unhide HBW).size)
      have HB2 := hide b12
      obtain ⟨c0, c1, c2, c3⟩ := box4 (unhide HG) b12 hz
      have zl := Nat.lt_of_lt_of_le hz b12.size
      have hll := lay1_len kk
      have hcat : ¬ 9223372036854775807 < (D k).length + (lay1 kk).length := by omega
      clear b2 b12
      go_upto_region 9 with fail
      simp only [cat_val]
      cases lf
      · go_wp2
        refine ⟨⟨k + 1, by omega, by go_num, by rw [unhide HS1]; simp, unhide HB2⟩, ?_⟩
        simp [Go.RowKit.intOf]; omega
      · obtain ⟨gv, ov, rfl, gvl, gvc⟩ := (unhide HV w2 (unhide HB2)).at (show k < vs.length by rw [unhide HR4 rfl]; exact hlt)
        have hvl : (k : Int) < (vs.length : Int) := by rw [unhide HR4 rfl]; exact hlt'
        have x2 := hide (short_ref (vs.getD k []) w2 (by omega))
        generalize hvd : vs.getD k [] = vv at *
        clear hvd
        have hXl : (D k ++ lay1 kk).length = (D k).length + (lay1 kk).length := List.length_append
        obtain ⟨X, hX⟩ : ∃ X, X = D k ++ lay1 kk := ⟨_, rfl⟩
        rw [← hX] at hXl ⊢
        have HXD := hide hX.symm
        clear hX
        go_wp2_with fail
        refine (unhide x2).mono ?_
        rintro e w3 ⟨rfl, b3⟩
        clear x2 c0 c1 c2 c3 zl gvl gvc
        have HB3 := hide ((unhide HB2).trans (b3.mono (unhide HB2).size))
        have hlv := lay1_len vv
        have hcat2 : ¬ 9223372036854775807 < X.length + (lay1 vv).length := by omega
        clear b3 hcat
        go_wp2
        refine ⟨⟨k + 1, by omega, by go_num, by rw [cat_val, unhide HS1, ← unhide HXD, List.append_assoc]; rfl, unhide HB3⟩, ?_⟩
        simp [Go.RowKit.intOf]; omega
    · have hlt' : ¬ (k : Int) < (ks.length : Int) := by omega
      have hke : k = ks.length := by omega
      rw [hke]
      clear hbw
      generalize hBB : D ks.length = BB at *
      have HBD := hide hBB
      clear hBB
      have hq := heap_alloc_new wr (.cells #[I 0, I 0, I 0, .slice none 0 0, S []] 27)
      have hb3 := (Below.refl wr.heap.size wr).alloc (Nat.le_refl _) (.cells #[I 0, I 0, I 0, .slice none 0 0, S []] 27)
      have ht := setRow_heap _ _ _ #[I 2, I 0, I 0, .slice none 0 0, S BB] 27 _ hq
      have hb4 := (setRow_only (wr.alloc (.cells #[I 0, I 0, I 0, .slice none 0 0, S []] 27)) wr.heap.size #[I 2, I 0, I 0, .slice none 0 0, S BB]).below hb3 hb3.size (fun k e => by omega)
      generalize hW3 : (wr.alloc (.cells #[I 0, I 0, I 0, .slice none 0 0, S []] 27)).setRow wr.heap.size #[I 2, I 0, I 0, .slice none 0 0, S BB] = W3 at ht hb4
      have HW3 := hide hW3
      have HQ := hide hq
      have HT3 := hide ht
      have HB3 := hide hb4
      have HBB3 := hide ((unhide HBW).trans (hb4.mono (unhide HBW).size))
      clear hq hb3 ht hb4 hW3 hke
      go_upto_region 12 with (first | (refine wp_st27 rfl (.tmp 7) (.tmp 46) rfl wr.heap.size (by rfl) 2 0 0 none 0 0 BB (by rfl) _ rfl (unhide HQ) ?_; rw [unhide HW3]) | fail)
      have hPw : W1.heap.size ≤ wr.heap.size := (unhide HBW).size
      have HPW := hide hPw
      clear c0 c1 c2 c3 zl
      obtain ⟨c0, c1, c2, c3⟩ := box4 (unhide HG) (unhide HBB3) hz
      have zl := Nat.lt_of_lt_of_le hz (unhide HBB3).size
      generalize wr.heap.size = P at HT3 HPW ⊢
      clear hPw HB3 HBW HQ HW3
      cases lf
      · go_upto_region 14 with fail
        have HV5 := HT3
        have HBV := HBB3
        clear c0 c1 c2 c3 zl
        obtain ⟨p0, p1, p2, p3, p4⟩ := box5 (unhide HV5) (Below.refl _ _) (lt_of_row (unhide HV5))
        have pl := lt_of_row (unhide HV5)
        obtain ⟨c0, c1, c2, c3⟩ := box4 (unhide HG) (unhide HBV) hz
        have zl := Nat.lt_of_lt_of_le hz (unhide HBV).size
        go_upto_region 15 with (at_builtin; refine wp_anyI rfl (.tmp 51) (.tmp 53) rfl (.slice none 0 0) 0 [] (by rfl) (owns_nil _ _ _) ia is.length ic is (unhide HJ _ (unhide HBV)) (unhide HI).2 (by rfl) (by have := (unhide HI).1; omega) ?_; intro p6 c6 w6 r6 o6 n6; have hx6 := (o6.block _ (lt_of_row (unhide HV5)) (fun q => nomatch q)).trans (unhide HV5); obtain ⟨y0, y1, y2, y3, y4⟩ := box5 hx6 (Below.refl _ _) (lt_of_row hx6); have f6 := frz hx6 3; have yl := lt_of_row hx6; have HX6 := hide hx6; have HR6 := hide r6; have HO6 := hide o6; have HN6 := hide n6; clear r6 o6 n6 hx6)
        simp only [List.nil_append, Nat.zero_add] at *
        have hx7 := heap_setCell_same w6 P 3 _ 27 (.slice p6 is.length c6) (unhide HX6)
        have o7 := Only.setCell w6 ⟨P, 3, none⟩ (.slice p6 is.length c6)
        have hP7 : P ≠ W0.heap.size := by have := unhide HPW; omega
        have r7 := owns_only (unhide HR6) o7 (fun i hi q => by
          obtain ⟨cs, e⟩ := owns_lt (unhide HR6) i hi
          rw [show i = P from q, unhide HX6] at e
          cases e)
        have b6 : Below W1.heap.size W1 w6 := (unhide HO6).below (unhide HBV) (unhide HBV).size (fun k q => nomatch q)
        have b7 : Below W1.heap.size W1 (w6.setCell ⟨P, 3, none⟩ (.slice p6 is.length c6)) := o7.below b6 b6.size (fun k q => by rw [show k = P from q]; exact (unhide HPW))
        have hq7 := (b7.block _ hz1).trans (unhide HP)
        clear p0 p1 p2 p3 p4 pl c0 c1 c2 c3 zl y0 y1 y2 y3 y4 f6 yl
        generalize w6.setCell ⟨P, 3, none⟩ (.slice p6 is.length c6) = V7 at hx7 r7 b7 hq7 ⊢
        have hx7' : V7.heap[P]? = some (.cells #[I 2, I 0, I 0, .slice p6 is.length c6, S BB] 27 (0, 0)) := by rw [hx7]; rfl
        obtain ⟨p0, p1, p2, p3, p4⟩ := box5 hx7' (Below.refl _ _) (lt_of_row hx7')
        have pl := lt_of_row hx7'
        have HQ7 := hide hq7
        have HR7 := hide r7
        have HB7 := hide b7
        have HN7 := hide (fun i (hi : (Value.slice p6 is.length c6).ownBlock = some i) => (unhide HN6 i hi).resolve_left (fun q => nomatch q))
        clear hx7 o7 r7 b7 hq7 b6 hx7'
        go_wp2_with (first | (refine wp_st27 rfl (.tmp 2) (.tmp 56) rfl W0.heap.size (by rfl) 2 0 0 p6 is.length c6 BB (by rfl) _ rfl (unhide HQ7) ?_) | fail)
        have h5 := setRow_heap _ _ _ #[I 2, I 0, I 0, .slice p6 is.length c6, S BB] 27 _ (unhide HQ7)
        have oF := setRow_only V7 W0.heap.size #[I 2, I 0, I 0, .slice p6 is.length c6, S BB]
        have hX := unhide HX
        have hbb := (unhide HA).trans ((unhide HB7).mono (unhide HA).size)
        refine outP (p := 2) (q := 3) (v := I (0 : Nat)) rfl (by rfl) (by rfl) (by rfl) h5 ⟨p6, c6, by rw [unhide HBD]; first | rfl | simp, ?_, oF.below hbb hbb.size (fun k e => by omega)⟩
        exact owns_only (unhide HR7) oF (fun i hi q => by
          obtain ⟨cs, e⟩ := owns_lt (unhide HR7) i hi
          rw [show i = W0.heap.size from q, unhide HQ7] at e
          cases e)
      · obtain ⟨p0, p1, p2, p3, p4⟩ := box5 (unhide HT3) (Below.refl _ _) (lt_of_row (unhide HT3))
        have pl := lt_of_row (unhide HT3)
        have fz := frz (unhide HT3) 0
        go_upto_region 14 with fail
        have hx5 := heap_setCell_same W3 P 0 _ 27 (I 1) (unhide HT3)
        have o5 := Only.setCell W3 ⟨P, 0, none⟩ (I 1)
        have b5 : Below W1.heap.size W1 (W3.setCell ⟨P, 0, none⟩ (I 1)) := o5.below (unhide HBB3) (unhide HBB3).size (fun k q => by rw [show k = P from q]; exact (unhide HPW))
        clear p0 p1 p2 p3 p4 pl fz c0 c1 c2 c3 zl
        generalize W3.setCell ⟨P, 0, none⟩ (I 1) = V5 at hx5 b5 ⊢
        have HV5 : Hid (V5.heap[P]? = some (.cells #[I 1, I 0, I 0, .slice none 0 0, S BB] 27 (0, 0))) := by
          show V5.heap[P]? = _
          rw [hx5]; rfl
        have HBV := hide b5
        clear hx5 o5 b5
        obtain ⟨p0, p1, p2, p3, p4⟩ := box5 (unhide HV5) (Below.refl _ _) (lt_of_row (unhide HV5))
        have pl := lt_of_row (unhide HV5)
        obtain ⟨c0, c1, c2, c3⟩ := box4 (unhide HG) (unhide HBV) hz
        have zl := Nat.lt_of_lt_of_le hz (unhide HBV).size
        go_upto_region 15 with (at_builtin; refine wp_anyI rfl (.tmp 51) (.tmp 53) rfl (.slice none 0 0) 0 [] (by rfl) (owns_nil _ _ _) ia is.length ic is (unhide HJ _ (unhide HBV)) (unhide HI).2 (by rfl) (by have := (unhide HI).1; omega) ?_; intro p6 c6 w6 r6 o6 n6; have hx6 := (o6.block _ (lt_of_row (unhide HV5)) (fun q => nomatch q)).trans (unhide HV5); obtain ⟨y0, y1, y2, y3, y4⟩ := box5 hx6 (Below.refl _ _) (lt_of_row hx6); have f6 := frz hx6 3; have yl := lt_of_row hx6; have HX6 := hide hx6; have HR6 := hide r6; have HO6 := hide o6; have HN6 := hide n6; clear r6 o6 n6 hx6)
        simp only [List.nil_append, Nat.zero_add] at *
        have hx7 := heap_setCell_same w6 P 3 _ 27 (.slice p6 is.length c6) (unhide HX6)
        have o7 := Only.setCell w6 ⟨P, 3, none⟩ (.slice p6 is.length c6)
        have hP7 : P ≠ W0.heap.size := by have := unhide HPW; omega
        have r7 := owns_only (unhide HR6) o7 (fun i hi q => by
          obtain ⟨cs, e⟩ := owns_lt (unhide HR6) i hi
          rw [show i = P from q, unhide HX6] at e
          cases e)
        have b6 : Below W1.heap.size W1 w6 := (unhide HO6).below (unhide HBV) (unhide HBV).size (fun k q => nomatch q)
        have b7 : Below W1.heap.size W1 (w6.setCell ⟨P, 3, none⟩ (.slice p6 is.length c6)) := o7.below b6 b6.size (fun k q => by rw [show k = P from q]; exact (unhide HPW))
        have hq7 := (b7.block _ hz1).trans (unhide HP)
        clear p0 p1 p2 p3 p4 pl c0 c1 c2 c3 zl y0 y1 y2 y3 y4 f6 yl
        generalize w6.setCell ⟨P, 3, none⟩ (.slice p6 is.length c6) = V7 at hx7 r7 b7 hq7 ⊢
        have hx7' : V7.heap[P]? = some (.cells #[I 1, I 0, I 0, .slice p6 is.length c6, S BB] 27 (0, 0)) := by rw [hx7]; rfl
        obtain ⟨p0, p1, p2, p3, p4⟩ := box5 hx7' (Below.refl _ _) (lt_of_row hx7')
        have pl := lt_of_row hx7'
        have HQ7 := hide hq7
        have HR7 := hide r7
        have HB7 := hide b7
        have HN7 := hide (fun i (hi : (Value.slice p6 is.length c6).ownBlock = some i) => (unhide HN6 i hi).resolve_left (fun q => nomatch q))
        clear hx7 o7 r7 b7 hq7 b6 hx7'
        go_wp2_with (first | (refine wp_st27 rfl (.tmp 2) (.tmp 56) rfl W0.heap.size (by rfl) 1 0 0 p6 is.length c6 BB (by rfl) _ rfl (unhide HQ7) ?_) | fail)
        have h5 := setRow_heap _ _ _ #[I 1, I 0, I 0, .slice p6 is.length c6, S BB] 27 _ (unhide HQ7)
        have oF := setRow_only V7 W0.heap.size #[I 1, I 0, I 0, .slice p6 is.length c6, S BB]
        have hX := unhide HX
        have hbb := (unhide HA).trans ((unhide HB7).mono (unhide HA).size)
        refine outP (p := 2) (q := 3) (v := I (0 : Nat)) rfl (by rfl) (by rfl) (by rfl) h5 ⟨p6, c6, by rw [unhide HBD]; first | rfl | simp, ?_, oF.below hbb hbb.size (fun k e => by omega)⟩
        exact owns_only (unhide HR7) oF (fun i hi q => by
          obtain ⟨cs, e⟩ := owns_lt (unhide HR7) i hi
          rw [show i = W0.heap.size from q, unhide HQ7] at e
          cases e)
  · have e1 : pvk n = 0 := by unfold pvk; rw [if_neg hw]
    have e2 : pvb n = [] := by unfold pvb; rw [if_neg hw]
    have e3 : pvl n = [] := by unfold pvl; rw [if_neg hw]
    rw [e1, e2, e3]
    have hw' : ¬ (wrv n : Int) = 0 := by omega
    clear e1 e2 e3 HN
    generalize wrv n = wv at *
    generalize n.keys.length = kl at *
    generalize n.vals.length = vl at *
    generalize n.kids.length = il at *
    generalize n.leaf = lf at *
    go_enter Tryz.func44, Tryz.ntmps44
    go_wp2_with fail
    refine (unhide X1).mono ?_
    rintro e w1 ⟨rfl, b1⟩
    clear c0 c1 c2 c3 X1 hW0 hW1
    have hq := (b1.block _ hz1).trans (unhide HP)
    have HQ := hide hq
    have HB := hide ((unhide HA).trans (b1.mono (unhide HA).size))
    clear b1 hq
    go_wp2_with (first | (refine wp_st27 rfl (.tmp 2) (.tmp 12) rfl W0.heap.size (by rfl) 0 0 0 none 0 0 [] (by rfl) _ rfl (unhide HQ) ?_) | fail)
    have h5 := setRow_heap _ _ _ #[I 0, I 0, I 0, .slice none 0 0, S []] 27 _ (unhide HQ)
    have oF := setRow_only w1 W0.heap.size #[I 0, I 0, I 0, .slice none 0 0, S []]
    have hX := unhide HX
    exact outP (p := 2) (q := 3) (v := I wv) rfl (by rfl) (by rfl) (by rfl) h5 ⟨none, 0, rfl, owns_nil _ _ _, oF.below (unhide HB) (unhide HB).size (fun k e => by omega)⟩
end Go.Proofs.YtllialbdofklgaaGreatDoor
