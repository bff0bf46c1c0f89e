import Derived.Test.YtllialbdofklgaaGreatDoorZnpa
import Derived.Test.YtllialbdofklgaaGreatDoorNom
namespace Go.Proofs.YtllialbdofklgaaGreatDoor
open Go.RowKit
set_option maxHeartbeats 8000000
set_option maxRecDepth 8000
theorem owns_capb {B e k m n c : Nat} {p : Option Addr} {w : World} {xs : List Value} (h : w.ownsRow B e k (.slice p n c) m xs) : n ≤ c ∧ c ≤ 9223372036854775807 := by
  rcases h.2 with ⟨q, _⟩ | ⟨g, cap, cur, q1, q2, q3, q4, q5, q6, q7⟩
  · cases q; omega
  · cases q1
    unfold maxLen at q5
    omega
/-! ### Two rising lists are put together -/
structure Mrg (zs O A B : List Int) : Prop where
  perm : (O ++ A ++ B).Perm zs
  po : O.Pairwise (· ≤ ·)
  pa : A.Pairwise (· ≤ ·)
  pb : B.Pairwise (· ≤ ·)
  oa : ∀ x ∈ O, ∀ y ∈ A, x ≤ y
  ob : ∀ x ∈ O, ∀ y ∈ B, x ≤ y
theorem Mrg.left {zs O A B : List Int} {x y : Int} (h : Mrg zs O (x :: A) (y :: B)) (hxy : x ≤ y) : Mrg zs (O ++ [x]) A (y :: B) := by
  obtain ⟨h1, h2, h3, h4, h5, h6⟩ := h
  have h3' := List.pairwise_cons.1 h3
  have h4' := List.pairwise_cons.1 h4
  refine ⟨by simpa using h1, List.pairwise_append.2 ⟨h2, List.pairwise_singleton _ _, fun a ha b hb => ?_⟩, h3'.2, h4, fun a ha b hb => ?_, fun a ha b hb => ?_⟩
  · rw [List.mem_singleton.1 hb]; exact h5 a ha x (by simp)
  · rcases List.mem_append.1 ha with q | q
    · exact h5 a q b (by simp [hb])
    · rw [List.mem_singleton.1 q]; exact h3'.1 b hb
  · rcases List.mem_append.1 ha with q | q
    · exact h6 a q b hb
    · rw [List.mem_singleton.1 q]
      rcases List.mem_cons.1 hb with r | r
      · omega
      · have := h4'.1 b r; omega
theorem Mrg.right {zs O A B : List Int} {x y : Int} (h : Mrg zs O (x :: A) (y :: B)) (hxy : ¬ x ≤ y) : Mrg zs (O ++ [y]) (x :: A) B := by
  obtain ⟨h1, h2, h3, h4, h5, h6⟩ := h
  have h3' := List.pairwise_cons.1 h3
  have h4' := List.pairwise_cons.1 h4
  refine ⟨List.Perm.trans ?_ h1, List.pairwise_append.2 ⟨h2, List.pairwise_singleton _ _, fun a ha b hb => ?_⟩, h3, h4'.2, fun a ha b hb => ?_, fun a ha b hb => ?_⟩
  · rw [List.append_assoc, List.append_assoc, List.append_assoc]
    refine List.Perm.append_left O ?_
    exact (List.perm_middle (a := y) (l₁ := x :: A) (l₂ := B)).symm
  · rw [List.mem_singleton.1 hb]; exact h6 a ha y (by simp)
  · rcases List.mem_append.1 ha with q | q
    · exact h5 a q b hb
    · rw [List.mem_singleton.1 q]
      rcases List.mem_cons.1 hb with r | r
      · omega
      · have := h3'.1 b r; omega
  · rcases List.mem_append.1 ha with q | q
    · exact h6 a q b (by simp [hb])
    · rw [List.mem_singleton.1 q]; exact h4'.1 b hb
theorem Mrg.done {zs O A B : List Int} (h : Mrg zs O A B) (h0 : A = [] ∨ B = []) : (O ++ A ++ B).Perm zs ∧ (O ++ A ++ B).Pairwise (· ≤ ·) := by
  refine ⟨h.perm, List.pairwise_append.2 ⟨List.pairwise_append.2 ⟨h.po, h.pa, h.oa⟩, h.pb, fun a ha b hb => ?_⟩⟩
  rcases h0 with rfl | rfl
  · exact h.ob a (by simpa using ha) b hb
  · cases hb
theorem small_pw (zs : List Int) (h : zs.length < 2) : zs.Pairwise (· ≤ ·) := by
  match zs, h with
  | [], _ => exact List.Pairwise.nil
  | [x], _ => exact List.pairwise_singleton _ _
theorem Ins.tl {w : World} {ad : Addr} {n : Nat} {x : Int} {l : List Int} (h : Ins w (some ad) n (x :: l)) : ∃ g o, ad = ⟨g, o, none⟩ ∧ n = l.length + 1 ∧ g < w.heap.size ∧ w.cell? ⟨g, o, none⟩ = some (I x) ∧ Ins w (some ⟨g, o + 1, none⟩) l.length l := by
  have h1 := h.1
  simp only [List.length_cons] at h1
  subst h1
  obtain ⟨g, o, e, hc⟩ := h.2 (by omega)
  cases e
  refine ⟨g, o, rfl, rfl, blk_lt (hc 0 (by omega)), hc 0 (by omega), rfl, fun _ => ⟨g, o + 1, rfl, fun j hj => ?_⟩⟩
  have := hc (j + 1) (by omega)
  rw [show o + 1 + j = o + (j + 1) by omega, this]
  simp
def sln (v : Value) : Nat := match v with | .slice _ n _ => n | _ => 0
theorem refSorted_any : ∀ (N n : Nat), n ≤ N → ∀ (a : Option Addr) (cap : Nat) (zs : List Int) (w : World), Ins w a n zs → n ≤ 4294967296 → n ≤ cap → cap ≤ 9223372036854775807 →
    Calls Tryz.prog 106 #[.slice a n cap] w fun e w' => ∃ p c us, e = .returned (.slice p n c) ∧ n ≤ c ∧ c ≤ 9223372036854775807 ∧ Ins w' p n us ∧ us.Perm zs ∧ us.Pairwise (· ≤ ·) ∧ Below w.heap.size w w' := by
  intro N
  induction N with
  | zero =>
    intro n hn a cap zs w hI hb hcap hc2
    obtain rfl : n = 0 := by omega
    have hN := hI.1
    have HI := hide hI
    have HW := hide (small_pw zs (by omega))
    clear hI hN
    go_enter Tryz.func106, Tryz.ntmps106
    go_wp2
    go_ret
    exact ⟨a, cap, zs, rfl, hcap, hc2, unhide HI, List.Perm.refl _, unhide HW, Below.refl _ _⟩
  | succ N ih =>
    intro n hn a cap zs w hI hb hcap hc2
    by_cases h2 : n < 2
    · have hN := hI.1
      have HI := hide hI
      have HW := hide (small_pw zs (by omega))
      have h2' : (n : Int) < 2 := by omega
      clear hI hN ih
      go_enter Tryz.func106, Tryz.ntmps106
      go_wp2
      go_ret
      exact ⟨a, cap, zs, rfl, hcap, hc2, unhide HI, List.Perm.refl _, unhide HW, Below.refl _ _⟩
    · have h2' : ¬ (n : Int) < 2 := by omega
      obtain ⟨g, o, rfl, -⟩ := hI.2 (by omega)
      obtain ⟨k, hk⟩ : ∃ k, k = n / 2 := ⟨_, rfl⟩
      have hk1 : 1 ≤ k := by omega
      have hk2 : k < n := by omega
      have hq : (n : Int) / 2 = (k : Int) := by omega
      have hq2 : Int.tdiv (n : Int) 2 = (k : Int) := by rw [Int.tdiv_eq_ediv_of_nonneg (by omega)]; exact hq
      have X1 := hide (fun W (q : Below w.heap.size w W) => ih k (by omega) (some ⟨g, o, none⟩) cap (zs.take k) W ((hI.tk k (by omega)).below q) (by omega) (by omega) (by omega))
      have X2 := hide (fun W (q : Below w.heap.size w W) => ih (n - k) (by omega) (some ⟨g, o + k, none⟩) (cap - k) (zs.drop k) W ((hI.dr k).below q) (by omega) (by omega) (by omega))
      have HZ := hide hI.1
      have c1 : k ≤ cap := by omega
      have c2 : k ≤ n := by omega
      have c3 : ¬ cap = k := by omega
      clear ih hI hk
      have x1 := hide (unhide X1 w (Below.refl _ _))
      go_enter Tryz.func106, Tryz.ntmps106
      go_wp2_with fail
      refine (unhide x1).mono ?_
      rintro e w1 ⟨pa, ca, A0, rfl, ha1, ha2, hA, pA, sA, b1⟩
      have x2 := hide (unhide X2 w1 b1)
      have HA := hide (And.intro hA (And.intro pA sA))
      have B1 := hide b1
      clear hA pA sA b1 x1 X1 X2
      go_wp2_with fail
      refine (unhide x2).mono ?_
      rintro e w2 ⟨pb, cb, B0, rfl, hb1, hb2, hB, pB, sB, b2⟩
      obtain ⟨ga, oa, rfl, -⟩ := (unhide HA).1.2 (by omega)
      obtain ⟨gb, ob, rfl, -⟩ := hB.2 (by omega)
      obtain ⟨hA, pA, sA⟩ := unhide HA
      have hla := hA.1
      have hlb := hB.1
      have HIA := hide (hA.below b2)
      have HIB := hide hB
      have B2 := hide ((unhide B1).trans (b2.mono (unhide B1).size))
      have HM0 := hide (show Mrg zs [] A0 B0 from ⟨by have := pA.append pB; rw [List.take_append_drop] at this; simpa using this, List.Pairwise.nil, sA, sB, by simp, by simp⟩)
      have HLA := hide (And.intro hla hlb)
      clear hla hlb hA pA sA hB pB sB b2 HA x2 B1 hq hq2 c1 c2 c3 hk1 hk2
      go_wp2
      go_loopw [3, 4, 5] (fun s3 s4 s5 wr => ∃ (A B O : List Int) (xa xb : Addr) (ca cb : Nat) (po : Option Addr) (co : Nat), s3 = .slice (some xa) A.length ca ∧ s4 = .slice (some xb) B.length cb ∧ s5 = .slice po O.length co ∧ (A.length ≤ ca ∧ ca ≤ 9223372036854775807 ∧ B.length ≤ cb ∧ cb ≤ 9223372036854775807) ∧ Ins w2 (some xa) A.length A ∧ Ins w2 (some xb) B.length B ∧ wr.ownsRow 0 3 1 (.slice po O.length co) O.length (O.map fun z => I z) ∧ (∀ j, (Value.slice po O.length co).ownBlock = some j → w2.heap.size ≤ j) ∧ Mrg zs O A B ∧ Below w2.heap.size w2 wr) (fun s3 s4 _ _ => sln s3 + sln s4)
      case atStart =>
        obtain ⟨hla, hlb⟩ := unhide HLA
        rw [hlb, hla]
        refine ⟨A0, B0, [], ⟨ga, oa, none⟩, ⟨gb, ob, none⟩, ca, cb, none, 0, rfl, rfl, rfl, ⟨by omega, ha2, by omega, hb2⟩, ?_, ?_, owns_nil _ _ _, (fun j hj => nomatch hj), unhide HM0, Below.refl _ _⟩
        · have := unhide HIA; rw [hla] at this; exact this
        · have := unhide HIB; rw [hlb] at this; exact this
      case round =>
        clear HM0 HIA HIB HLA ha1 ha2 hb1 hb2
        obtain ⟨A, B, O, xa, xb, ca, cb, po, co, rfl, rfl, rfl, ⟨q1, q2, q3, q4⟩, hIA, hIB, hO, hV, hM, hBl⟩ := hrel
        have HIA := hide (hIA.below hBl)
        have HIB0 := hide hIB
        have HO := hide hO
        have HV := hide hV
        have HM := hide hM
        have HB := hide hBl
        have hpl := hM.perm.length_eq
        simp only [List.length_append] at hpl
        have HLN := hide hpl
        have hLb : O.length + A.length + B.length ≤ 4294967296 := by have := unhide HZ; omega
        clear hpl
        cases A with
        | nil =>
          simp only [List.length_nil] at *
          generalize hol : O.length = ol at *
          generalize hbl : B.length = bl at *
          have HLS := hide (And.intro hol hbl)
          clear hol hbl
          clear hIA hIB hO hV hM hBl
          go_wp2_with (at_builtin; first | (refine wp_anyI rfl (.tmp 53) (.tmp 54) rfl (.slice po ol co) ol O (by rfl) (unhide HO) (some xa) (0) ca [] (unhide HIA) (fun q => nomatch q) (by rfl) (by omega) ?_; intro p3 c3 w3 r3 o3 n3; have HR3 := hide r3; have HN3 := hide n3; have HB3 := hide (o3.below (unhide HB) (unhide HB).size (fun j hj => unhide HV j hj)); have HIB3 := hide ((unhide HIB0).below (unhide HB3)); clear r3 o3 n3) | (refine wp_anyI rfl (.tmp 56) (.tmp 57) rfl (.slice p3 (ol + (0)) c3) (ol + (0)) (O ++ []) (by rfl) (unhide HR3) (some xb) (bl) cb B (unhide HIB3) (fun q => nomatch q) (by rfl) (by omega) ?_; intro p4 c4 w4 r4 o4 n4; have HR4 := hide r4; have HO4 := hide o4; clear r4 o4 n4))
          go_ret
          obtain ⟨rfl, rfl⟩ := unhide HLS
          have hr := unhide HR4
          obtain ⟨hp1, hp2⟩ := (unhide HM).done (.inl rfl)
          have hln : (O ++ [] ++ B).length = n := hp1.length_eq.trans (unhide HZ).symm
          have hbw := (unhide HO4).below (unhide HB3) (unhide HB3).size (fun j hj => by
            rcases unhide HN3 j hj with q | q
            · exact unhide HV j q
            · exact Nat.le_trans (unhide HB).size q)
          have hq : O.length + (0) + (B.length) = (O ++ [] ++ B).length := by simp
          have hcp := owns_capb hr
          rw [hq] at hr hcp
          obtain ⟨p5, c5, e5, s5, -⟩ := Ins.of hr
          cases e5
          rw [hln] at s5 hcp
          refine ⟨p4, c4, O ++ [] ++ B, by rw [← hln, ← hq]; rfl, hcp.1, hcp.2, s5, hp1, hp2, (unhide B2).trans (hbw.mono (unhide B2).size)⟩
        | cons x A =>
          cases B with
          | nil =>
            simp only [List.length_nil, List.length_cons] at *
            generalize hol : O.length = ol at *
            generalize hal : A.length = al at *
            have HLS := hide (And.intro hol hal)
            clear hol hal
            have p1 : (0 : Int) < ((al + 1 : Nat) : Int) := by omega
            clear hIA hIB hO hV hM hBl
            go_wp2_with (at_builtin; first | (refine wp_anyI rfl (.tmp 53) (.tmp 54) rfl (.slice po ol co) ol O (by rfl) (unhide HO) (some xa) (al + 1) ca (x :: A) (unhide HIA) (fun q => nomatch q) (by rfl) (by omega) ?_; intro p3 c3 w3 r3 o3 n3; have HR3 := hide r3; have HN3 := hide n3; have HB3 := hide (o3.below (unhide HB) (unhide HB).size (fun j hj => unhide HV j hj)); have HIB3 := hide ((unhide HIB0).below (unhide HB3)); clear r3 o3 n3) | (refine wp_anyI rfl (.tmp 56) (.tmp 57) rfl (.slice p3 (ol + (al + 1)) c3) (ol + (al + 1)) (O ++ (x :: A)) (by rfl) (unhide HR3) (some xb) (0) cb [] (unhide HIB3) (fun q => nomatch q) (by rfl) (by omega) ?_; intro p4 c4 w4 r4 o4 n4; have HR4 := hide r4; have HO4 := hide o4; clear r4 o4 n4))
            go_ret
            obtain ⟨rfl, rfl⟩ := unhide HLS
            have hr := unhide HR4
            obtain ⟨hp1, hp2⟩ := (unhide HM).done (.inr rfl)
            have hln : (O ++ (x :: A) ++ []).length = n := hp1.length_eq.trans (unhide HZ).symm
            have hbw := (unhide HO4).below (unhide HB3) (unhide HB3).size (fun j hj => by
              rcases unhide HN3 j hj with q | q
              · exact unhide HV j q
              · exact Nat.le_trans (unhide HB).size q)
            have hq : O.length + (A.length + 1) + (0) = (O ++ (x :: A) ++ []).length := by simp
            have hcp := owns_capb hr
            rw [hq] at hr hcp
            obtain ⟨p5, c5, e5, s5, -⟩ := Ins.of hr
            cases e5
            rw [hln] at s5 hcp
            refine ⟨p4, c4, O ++ (x :: A) ++ [], by rw [← hln, ← hq]; rfl, hcp.1, hcp.2, s5, hp1, hp2, (unhide B2).trans (hbw.mono (unhide B2).size)⟩
          | cons y B =>
            obtain ⟨g1, o1, rfl, e1, l1, d1, t1⟩ := hIA.tl
            obtain ⟨g2, o2, rfl, e2, l2, d2, t2⟩ := hIB.tl
            have d1 := (hBl.cell l1).trans d1
            have d2 := (hBl.cell l2).trans d2
            have l1 := Nat.lt_of_lt_of_le l1 hBl.size
            have l2 := Nat.lt_of_lt_of_le l2 hBl.size
            have T1 := hide t1
            have T2 := hide t2
            have HIA0 := hide hIA
            clear hIA hIB hO hV hM hBl t1 t2 HIA
            simp only [List.length_cons] at *
            generalize hol : O.length = ol at *
            generalize hal : A.length = al at *
            generalize hbl : B.length = bl at *
            have HLS := hide (And.intro hol (And.intro hal hbl))
            clear hol hal hbl
            have p1 : (0 : Int) < ((al + 1 : Nat) : Int) := by omega
            have p2 : (0 : Int) < ((bl + 1 : Nat) : Int) := by omega
            go_wp2
            go_region
            all_goals (
              by_cases hxy : x ≤ y
              · have hd : decide (x ≤ y) = true := decide_eq_true hxy
                have HX := hide (show Ins (wr.drew.alloc (.cells #[I x] 3)) (some ⟨wr.heap.size, 0, none⟩) 1 [x] from ⟨rfl, fun _ => ⟨wr.heap.size, 0, rfl, fun j hj => by
                  obtain rfl : j = 0 := by omega
                  rw [cell_of_row _ wr.heap.size (0 + 0) _ 3 (0, 0) (heap_alloc_new wr.drew (.cells #[I x] 3))]
                  rfl⟩⟩)
                have HQ := hide (show Below wr.heap.size wr (wr.drew.alloc (.cells #[I x] 3)) from (Below.refl wr.heap.size wr).drew.alloc (Nat.le_refl _) _)
                have HO2 := hide (owns_below (unhide HO) (unhide HQ))
                have HB2 := hide ((unhide HB).trans ((unhide HQ).mono (unhide HB).size))
                have HM2 := hide ((unhide HM).left hxy)
                by_cases hca : ca = 1
                · go_wp2_with (at_builtin; refine wp_appI rfl (.tmp 37) (.tmp 41) rfl (.slice po ol co) ol O (by rfl) (unhide HO2) wr.heap.size 0 1 1 [x] (unhide HX) (by rfl) (by omega) ?_; intro p3 c3 w3 r3 o3 n3; have HR3 := hide r3; have HO3 := hide o3; have HN3 := hide n3; clear r3 o3 n3)
                  go_roundw
                  case rel =>
                    obtain ⟨rfl, rfl, rfl⟩ := unhide HLS
                    refine ⟨A, y :: B, O ++ [x], ⟨g1, o1, none⟩, ⟨g2, o2, none⟩, ca - 1, cb, p3, c3, by rw [hca], by rfl, by simp, ⟨by first | omega | (simp; omega), by omega, by first | omega | (simp; omega), by omega⟩, ⟨rfl, fun q => by omega⟩, unhide HIB0, by have := unhide HR3; simpa using this, fun j hj => ?_, unhide HM2, (unhide HO3).below (unhide HB2) (unhide HB2).size (fun j hj => unhide HV j hj)⟩
                    rcases unhide HN3 j (by simpa using hj) with q | q
                    · exact unhide HV j q
                    · exact Nat.le_trans (unhide HB2).size q
                  case measure => simp [sln]
                · go_wp2_with (at_builtin; refine wp_appI rfl (.tmp 37) (.tmp 41) rfl (.slice po ol co) ol O (by rfl) (unhide HO2) wr.heap.size 0 1 1 [x] (unhide HX) (by rfl) (by omega) ?_; intro p3 c3 w3 r3 o3 n3; have HR3 := hide r3; have HO3 := hide o3; have HN3 := hide n3; clear r3 o3 n3)
                  go_roundw
                  case rel =>
                    obtain ⟨rfl, rfl, rfl⟩ := unhide HLS
                    refine ⟨A, y :: B, O ++ [x], ⟨g1, o1 + 1, none⟩, ⟨g2, o2, none⟩, ca - 1, cb, p3, c3, by rfl, by rfl, by simp, ⟨by first | omega | (simp; omega), by omega, by first | omega | (simp; omega), by omega⟩, unhide T1, unhide HIB0, by have := unhide HR3; simpa using this, fun j hj => ?_, unhide HM2, (unhide HO3).below (unhide HB2) (unhide HB2).size (fun j hj => unhide HV j hj)⟩
                    rcases unhide HN3 j (by simpa using hj) with q | q
                    · exact unhide HV j q
                    · exact Nat.le_trans (unhide HB2).size q
                  case measure => simp [sln]
              · have hd : decide (x ≤ y) = false := decide_eq_false hxy
                have HX := hide (show Ins (wr.drew.alloc (.cells #[I y] 3)) (some ⟨wr.heap.size, 0, none⟩) 1 [y] from ⟨rfl, fun _ => ⟨wr.heap.size, 0, rfl, fun j hj => by
                  obtain rfl : j = 0 := by omega
                  rw [cell_of_row _ wr.heap.size (0 + 0) _ 3 (0, 0) (heap_alloc_new wr.drew (.cells #[I y] 3))]
                  rfl⟩⟩)
                have HQ := hide (show Below wr.heap.size wr (wr.drew.alloc (.cells #[I y] 3)) from (Below.refl wr.heap.size wr).drew.alloc (Nat.le_refl _) _)
                have HO2 := hide (owns_below (unhide HO) (unhide HQ))
                have HB2 := hide ((unhide HB).trans ((unhide HQ).mono (unhide HB).size))
                have HM2 := hide ((unhide HM).right hxy)
                by_cases hca : cb = 1
                · go_wp2_with (at_builtin; refine wp_appI rfl (.tmp 45) (.tmp 49) rfl (.slice po ol co) ol O (by rfl) (unhide HO2) wr.heap.size 0 1 1 [y] (unhide HX) (by rfl) (by omega) ?_; intro p3 c3 w3 r3 o3 n3; have HR3 := hide r3; have HO3 := hide o3; have HN3 := hide n3; clear r3 o3 n3)
                  go_roundw
                  case rel =>
                    obtain ⟨rfl, rfl, rfl⟩ := unhide HLS
                    refine ⟨x :: A, B, O ++ [y], ⟨g1, o1, none⟩, ⟨g2, o2, none⟩, ca, cb - 1, p3, c3, by rfl, by rw [hca], by simp, ⟨by first | omega | (simp; omega), by omega, by first | omega | (simp; omega), by omega⟩, unhide HIA0, ⟨rfl, fun q => by omega⟩, by have := unhide HR3; simpa using this, fun j hj => ?_, unhide HM2, (unhide HO3).below (unhide HB2) (unhide HB2).size (fun j hj => unhide HV j hj)⟩
                    rcases unhide HN3 j (by simpa using hj) with q | q
                    · exact unhide HV j q
                    · exact Nat.le_trans (unhide HB2).size q
                  case measure => simp [sln]
                · go_wp2_with (at_builtin; refine wp_appI rfl (.tmp 45) (.tmp 49) rfl (.slice po ol co) ol O (by rfl) (unhide HO2) wr.heap.size 0 1 1 [y] (unhide HX) (by rfl) (by omega) ?_; intro p3 c3 w3 r3 o3 n3; have HR3 := hide r3; have HO3 := hide o3; have HN3 := hide n3; clear r3 o3 n3)
                  go_roundw
                  case rel =>
                    obtain ⟨rfl, rfl, rfl⟩ := unhide HLS
                    refine ⟨x :: A, B, O ++ [y], ⟨g1, o1, none⟩, ⟨g2, o2 + 1, none⟩, ca, cb - 1, p3, c3, by rfl, by rfl, by simp, ⟨by first | omega | (simp; omega), by omega, by first | omega | (simp; omega), by omega⟩, unhide HIA0, unhide T2, by have := unhide HR3; simpa using this, fun j hj => ?_, unhide HM2, (unhide HO3).below (unhide HB2) (unhide HB2).size (fun j hj => unhide HV j hj)⟩
                    rcases unhide HN3 j (by simpa using hj) with q | q
                    · exact unhide HV j q
                    · exact Nat.le_trans (unhide HB2).size q
                  case measure => simp [sln])
end Go.Proofs.YtllialbdofklgaaGreatDoor
namespace Go.Proofs.YtllialbdofklgaaGreatDoor
open Go.RowKit
set_option maxHeartbeats 8000000
set_option maxRecDepth 8000
/-! ### Numbers that stand twice -/
def adj : List Int → Bool
  | a :: b :: r => decide (a = b) || adj (b :: r)
  | _ => false
theorem adj_pw : ∀ {l : List Int}, l.Pairwise (· ≤ ·) → adj l = false → l.Pairwise (· < ·)
  | [], _, _ => List.Pairwise.nil
  | [a], _, _ => List.pairwise_singleton _ _
  | a :: b :: r, h, h2 => by
    simp only [adj, Bool.or_eq_false_iff, decide_eq_false_iff_not] at h2
    have h' := List.pairwise_cons.1 h
    have ih := adj_pw h'.2 h2.2
    refine List.pairwise_cons.2 ⟨fun x hx => ?_, ih⟩
    have hab := h'.1 b (by simp)
    have hlt : a < b := by have := h2.1; omega
    rcases List.mem_cons.1 hx with rfl | hx
    · exact hlt
    · have := (List.pairwise_cons.1 ih).1 x hx; omega
theorem adj_nodup {l : List Int} (h : l.Pairwise (· ≤ ·)) : adj l = false ↔ l.Nodup := by
  constructor
  · intro q
    exact (adj_pw h q).imp (fun {a b} r e => by omega)
  · intro q
    induction l with
    | nil => rfl
    | cons a r ih =>
      cases r with
      | nil => rfl
      | cons b r =>
        have q' := List.nodup_cons.1 q
        simp only [adj, Bool.or_eq_false_iff, decide_eq_false_iff_not]
        exact ⟨fun e => q'.1 (by simp [e]), ih (List.pairwise_cons.1 h).2 q'.2⟩
theorem adj_next (l : List Int) (k : Nat) (hk : k + 1 < l.length) : adj (l.take (k + 2)) = (adj (l.take (k + 1)) || decide (l.getD k 0 = l.getD (k + 1) 0)) := by
  induction l generalizing k with
  | nil => simp at hk
  | cons a r ih =>
    cases r with
    | nil => simp at hk
    | cons b r =>
      cases k with
      | zero => simp [adj]
      | succ k =>
        have := ih k (by simpa using hk)
        simp only [List.take_succ_cons, adj, List.getD_cons_succ] at this ⊢
        rw [this, Bool.or_assoc]
theorem adj_one (l : List Int) : adj (l.take 1) = false := by
  cases l <;> rfl
theorem adj_of {l : List Int} (h : ∀ j, j + 1 < l.length → l.getD j 0 ≠ l.getD (j + 1) 0) : adj l = false := by
  have : ∀ k, k + 1 ≤ l.length → adj (l.take (k + 1)) = false := by
    intro k
    induction k with
    | zero => intro _; exact adj_one l
    | succ k ih =>
      intro hk
      rw [adj_next l k (by omega), ih (by omega), Bool.false_or, decide_eq_false_iff_not]
      exact h k (by omega)
  rcases Nat.eq_zero_or_pos l.length with q | q
  · rw [List.eq_nil_of_length_eq_zero q]; rfl
  · have := this (l.length - 1) (by omega)
    rw [List.take_of_length_le (by omega)] at this
    exact this
theorem compact_adj (l : List Int) (h : (Go.Lib.compact l).length = l.length) : adj l = false := by
  unfold Go.Lib.compact Go.Lib.compactUpTo at h
  rw [List.length_map] at h
  have h2 : ∀ j ∈ List.range l.length, Go.Lib.keeps l.toArray j = true := by
    apply List.length_filter_eq_length_iff.1
    rw [h, List.length_range]
  refine adj_of fun j hj e => ?_
  have h3 := h2 (j + 1) (List.mem_range.2 hj)
  have h4 := Go.Lib.keeps_neg (d := l.toArray) (m := j + 1) (by omega) (by
    rw [Nat.add_sub_cancel, getElem!_pos _ (j + 1) (by simpa using hj), getElem!_pos _ j (by simp; omega)]
    simp only [List.getD_eq_getElem?_getD, List.getElem?_eq_getElem hj, List.getElem?_eq_getElem (show j < l.length by omega), Option.getD_some] at e
    simpa using e.symm)
  rw [h3] at h4
  cases h4
theorem unl_iff (zs : List Int) : unl zs = true ↔ zs.Nodup := by
  refine ⟨fun h => ?_, unl_nodup⟩
  unfold unl at h
  rw [decide_eq_true_eq, ← srt_len zs] at h
  have h2 := compact_adj _ h
  have hp : (srt zs).Perm zs := List.mergeSort_perm zs _
  have hs : (srt zs).Pairwise (· ≤ ·) := by
    have := List.pairwise_mergeSort (le := fun x y : Int => decide (x ≤ y)) (fun a b c => by simp; omega) (fun a b => by simp; omega) zs
    exact this.imp (fun {a b} q => by simpa using q)
  exact hp.nodup_iff.1 ((adj_nodup hs).1 h2)
theorem refRepeats_any (a : Option Addr) (n cap : Nat) (zs : List Int) (w : World) (hI : Ins w a n zs) (hb : n ≤ 4294967296) (hcap : n ≤ cap) (hc2 : cap ≤ 9223372036854775807) :
    Calls Tryz.prog 84 #[.slice a n cap] w fun e w' => e = .returned (.bool (!unl zs)) ∧ Below w.heap.size w w' := by
  have H1 := hide (refSorted_any n n (Nat.le_refl _) a cap zs w hI hb hcap hc2)
  clear hI
  go_enter Tryz.func84, Tryz.ntmps84
  go_wp2_with fail
  refine (unhide H1).mono ?_
  rintro e w1 ⟨p, c, us, rfl, -, -, hU, hp, hs, b1⟩
  have hur : (!unl zs) = adj us := by
    rw [Bool.eq_iff_iff]
    have h1 := unl_iff zs
    have h2 := adj_nodup hs
    have h3 := hp.nodup_iff
    cases hu : unl zs <;> cases ha : adj us <;> simp_all
  have HU := hide hU
  have hl := hU.1
  have HUR := hide hur
  have B1 := hide b1
  clear H1 hp hs b1 hU hur
  subst hl
  go_wp2
  go_loopw [4] (fun i wr => ∃ k q : Nat, (k ≤ us.length ∨ k = 1) ∧ 1 ≤ k ∧ i = .int .i64 k ∧ adj (us.take k) = false ∧ wr = w1.drewN q) (fun i _ => us.length - (Go.RowKit.intOf i).toNat)
  case atStart => exact ⟨1, 0, .inr rfl, by omega, rfl, adj_one us, rfl⟩
  case round =>
    obtain ⟨k, q, hk, hk1, rfl, ha, rfl⟩ := hrel
    by_cases hlt : k < us.length
    · have hlt' : (k : Int) < (us.length : Int) := by omega
      obtain ⟨j, rfl⟩ : ∃ j, k = j + 1 := ⟨k - 1, by omega⟩
      obtain ⟨p1, o1, rfl, hpl, hc0⟩ := (unhide HU).at hlt
      obtain ⟨p', o', e1, _, hc1⟩ := (unhide HU).at (show j < us.length by omega)
      cases e1
      have HN := hide (adj_next us j hlt)
      have HA := hide ha
      clear ha
      generalize us.getD (j + 1) 0 = y at *
      generalize us.getD j 0 = x at *
      by_cases hxy : y = x
      · have HR := hide (show adj us = true by
          cases q : adj us
          · have h1 : adj (us.take (j + 2)) = false := by
              have : ∀ (l : List Int) k, adj l = false → adj (l.take k) = false := by
                intro l
                induction l with
                | nil => intro k _; simp [adj]
                | cons a r ih =>
                  intro k h
                  cases r with
                  | nil => cases k <;> simp [adj]
                  | cons b r =>
                    simp only [adj, Bool.or_eq_false_iff] at h
                    match k with
                    | 0 => rfl
                    | 1 => rfl
                    | k + 2 =>
                      have := ih (k + 1) h.2
                      simp only [List.take_succ_cons, adj, Bool.or_eq_false_iff] at this ⊢
                      exact ⟨h.1, this⟩
              exact this us (j + 2) q
            rw [unhide HN, unhide HA, hxy] at h1
            simp at h1
          · rfl)
        have he : (y == x) = true := by simp [hxy]
        subst hxy
        clear HN HA
        go_wp2
        go_region
        all_goals (
          go_wp2
          go_ret
          exact ⟨ret_bool (by rw [unhide HUR, unhide HR]), by first | exact bel_q (unhide B1) _ | exact (bel_q (unhide B1) q).drew⟩)
      · have HA2 := hide (show adj (us.take (j + 2)) = false by rw [unhide HN, unhide HA]; simp; exact fun e => hxy e.symm)
        have he : (y == x) = false := by simp [hxy]
        clear HN HA
        go_wp2
        go_region
        all_goals (
          go_wp2
          go_roundw
          case rel => exact ⟨j + 2, q + 1, .inl (by omega), by omega, by go_num, unhide HA2, by first | rfl | trivial | simp⟩
          case measure => simp [Go.RowKit.intOf]; omega)
    · have hlt' : ¬ (k : Int) < (us.length : Int) := by omega
      have HA := hide (show adj us = false by rw [List.take_of_length_le (by omega)] at ha; exact ha)
      clear ha
      go_wp2
      go_ret
      exact ⟨ret_bool (by rw [unhide HUR, unhide HA]), bel_q (unhide B1) q⟩
end Go.Proofs.YtllialbdofklgaaGreatDoor
namespace Go.Proofs.YtllialbdofklgaaGreatDoor
open Go.RowKit
set_option maxHeartbeats 8000000
set_option maxRecDepth 8000
theorem refSize_any (n : Nd) (ka va ia : Option Addr) (kc vc ic : Nat) (w : World) (h : NA n ka va ia w) (hb : NB n) :
    Calls Tryz.prog 46 #[nda n ka va ia kc vc ic] w fun e w' => e = .returned (I n.siz) ∧ Below w.heap.size w w' := by
  obtain ⟨lf, ks, vs, is⟩ := n
  have hA := (Below.refl w.heap.size w).alloc (Nat.le_refl _) (.cells #[.bool lf, .slice ka ks.length kc, .slice va vs.length vc, .slice ia is.length ic] 25)
  have hg := heap_alloc_new w (.cells #[.bool lf, .slice ka ks.length kc, .slice va vs.length vc, .slice ia is.length ic] 25)
  have hz := lt_of_row hg
  have hn := h.below hA
  obtain ⟨b1, b2, b3, b4, b5⟩ := hb
  have H1 := hide hn.ks
  have H2 := hide hn.vs
  simp only at b1 b2 b3 b4 b5
  obtain ⟨c0, c1, c2, c3⟩ := box4 hg (Below.refl _ _) hz
  have HA := hide hA
  have HT1 := hide (fun k => Nat.le_trans (tot_take ks k) b4)
  have HT2 := hide (fun k => Nat.le_trans (tot_take vs k) b5)
  have HL1 := hide (fun k => Nat.le_trans (tot_at ks k) b4)
  have HL2 := hide (fun k => Nat.le_trans (tot_at vs k) b5)
  clear h hn hg
  unfold nda Nd.siz
  simp only at H1 H2 ⊢
  generalize hW : w.alloc (.cells #[.bool lf, .slice ka ks.length kc, .slice va vs.length vc, .slice ia is.length ic] 25) = W1 at *
  go_enter Tryz.func46, Tryz.ntmps46
  go_wp2
  clear hW
  go_loopw [3, 4] (fun s i wr => ∃ k : Nat, k ≤ ks.length ∧ i = .int .i64 k ∧ s = .int .i64 (tot (ks.take k) : Nat) ∧ wr = W1) (fun _ i _ => ks.length - (Go.RowKit.intOf i).toNat)
  case atStart => exact ⟨0, by omega, rfl, rfl, rfl⟩
  case round =>
    obtain ⟨k, hk, rfl, rfl, rfl⟩ := hrel
    by_cases hlt : k < ks.length
    · have hlt' : (k : Int) < (ks.length : Int) := by omega
      obtain ⟨p, o, rfl, hpl, hc0⟩ := (unhide H1).at hlt
      have HN := hide (tot_next ks k hlt)
      have t1 := unhide HT1 k
      have t2 := unhide HL1 k
      generalize ks.getD k [] = x at *
      generalize tot (ks.take k) = t at *
      go_wp2
      go_roundw
      case measure => simp [Go.RowKit.intOf]; omega
      case rel => exact ⟨k + 1, by omega, by go_num, by rw [unhide HN]; go_num, by first | trivial | rfl⟩
    · have hlt' : ¬ (k : Int) < (ks.length : Int) := by omega
      have hks : tot (ks.take k) = tot ks := by rw [List.take_of_length_le (by omega)]
      rw [hks]
      clear hks
      cases lf
      · generalize hts : tot ks = t at *
        have HTS := hide hts
        clear hts
        go_wp2
        go_ret
        exact ⟨ret_int (by have := unhide HTS; omega), unhide HA⟩
      · go_wp2
        go_loopw [3, 5] (fun s i wx => ∃ j : Nat, j ≤ vs.length ∧ i = .int .i64 j ∧ s = .int .i64 (tot ks + tot (vs.take j) : Nat) ∧ wx = wr) (fun _ i _ => vs.length - (Go.RowKit.intOf i).toNat)
        case atStart => exact ⟨0, by omega, rfl, rfl, rfl⟩
        case round =>
          obtain ⟨j, hj, rfl, rfl, rfl⟩ := hrel
          by_cases hlt2 : j < vs.length
          · have hlt2' : (j : Int) < (vs.length : Int) := by omega
            obtain ⟨p, o, rfl, hpl, hc0⟩ := (unhide H2).at hlt2
            have HN := hide (tot_next vs j hlt2)
            have t1 := unhide HT2 j
            have t2 := unhide HL2 j
            generalize vs.getD j [] = x at *
            generalize tot (vs.take j) = t at *
            generalize tot ks = t0 at *
            go_wp2
            go_roundw
            case measure => simp [Go.RowKit.intOf]; omega
            case rel => exact ⟨j + 1, by omega, by go_num, by rw [unhide HN]; go_num, by first | trivial | rfl⟩
          · have hlt2' : ¬ (j : Int) < (vs.length : Int) := by omega
            have hks : tot (vs.take j) = tot vs := by rw [List.take_of_length_le (by omega)]
            rw [hks]
            clear hks
            generalize hts : tot ks = t at *
            generalize hts2 : tot vs = t2 at *
            have HTS := hide (And.intro hts hts2)
            clear hts hts2
            go_wp2
            go_ret
            exact ⟨ret_int (by have := unhide HTS; omega), unhide HA⟩
end Go.Proofs.YtllialbdofklgaaGreatDoor
namespace Go.Proofs.YtllialbdofklgaaGreatDoor
open Go.RowKit
set_option maxHeartbeats 8000000
set_option maxRecDepth 8000
/-- The document's form; a leaf may be without keys, if so asked. -/
def fmr (n : Nd) (em : Bool) : Bool := if n.leaf then agl n && (em || decide (0 < n.keys.length)) else hfv n
theorem refForm_any (n : Nd) (em : Bool) (ka va ia : Option Addr) (kc vc ic : Nat) (w : World) (h : NA n ka va ia w) (hb : NB n) (ci : n.kids.length ≤ ic) (hic : ic ≤ 9223372036854775807) :
    Calls Tryz.prog 79 #[nda n ka va ia kc vc ic, .bool em] w fun e w' => e = .returned (.bool (fmr n em)) ∧ Below w.heap.size w w' := by
  obtain ⟨lf, ks, vs, is⟩ := n
  have hA := (Below.refl w.heap.size w).alloc (Nat.le_refl _) (.cells #[.bool lf, .slice ka ks.length kc, .slice va vs.length vc, .slice ia is.length ic] 25)
  have hg := heap_alloc_new w (.cells #[.bool lf, .slice ka ks.length kc, .slice va vs.length vc, .slice ia is.length ic] 25)
  have hz := lt_of_row hg
  have hn := h.below hA
  obtain ⟨b1, b2, b3, b4, b5⟩ := hb
  have H2 := hide hn.vs
  have H3 := hide hn.is
  simp only at b1 b2 b3 b4 b5 ci
  obtain ⟨c0, c1, c2, c3⟩ := box4 hg (Below.refl _ _) hz
  have HA := hide hA
  have HG := hide hg
  have HL2 := hide (fun k => Nat.le_trans (tot_at vs k) b5)
  clear h hn hg b4 b5
  unfold nda
  simp only at H2 H3 ⊢
  generalize hW : w.alloc (.cells #[.bool lf, .slice ka ks.length kc, .slice va vs.length vc, .slice ia is.length ic] 25) = W1 at *
  cases lf
  · have HR := hide (refRepeats_any ia is.length ic is W1 (unhide H3) b3 ci hic)
    have HF := hide (show fmr ⟨false, ks, vs, is⟩ em = (!anyI is && (decide (0 < ks.length) && (decide (is.length = ks.length + 1) && (decide (vs.length = 0) && unl is)))) by
      unfold fmr hfv agv agi
      simp only [Bool.false_eq_true, if_false]
      cases anyI is <;> cases unl is <;> simp)
    go_enter Tryz.func79, Tryz.ntmps79
    go_wp2
    clear hW
    go_loopw [6] (fun i wr => ∃ k : Nat, k ≤ is.length ∧ i = .int .i64 k ∧ anyI (is.take k) = false ∧ wr = W1) (fun i _ => is.length - (Go.RowKit.intOf i).toNat)
    case atStart => exact ⟨0, by omega, rfl, rfl, rfl⟩
    case round =>
      obtain ⟨k, hk, rfl, ha, rfl⟩ := hrel
      by_cases hlt : k < is.length
      · have hlt' : (k : Int) < (is.length : Int) := by omega
        obtain ⟨p, o, rfl, hpl, hc0⟩ := (unhide H3).at hlt
        have HN := hide (anyi_next is k hlt)
        have HW := hide (anyi_hit is k hlt)
        generalize is.getD k 0 = x at *
        have HAA := hide ha
        clear ha
        cases hx : nki x
        · have HA2 := hide (show anyI (is.take (k + 1)) = false by rw [unhide HN, unhide HAA, hx]; rfl)
          unfold nki at hx
          simp only [Bool.or_eq_false_iff, decide_eq_false_iff_not] at hx
          obtain ⟨x1, x2⟩ := hx
          have q1 : decide (x < 2) = false := decide_eq_false x1
          have q2 : decide ((4294967295 : Int) < x) = false := decide_eq_false x2
          clear HN HW HAA
          go_wp2
          go_roundw
          case measure => simp [Go.RowKit.intOf]; omega
          case rel => exact ⟨k + 1, by omega, by go_num, unhide HA2, by first | trivial | rfl⟩
        · have HX := hide (show fmr ⟨false, ks, vs, is⟩ em = false by rw [unhide HF, unhide HW hx]; rfl)
          unfold nki at hx
          simp only [Bool.or_eq_true, decide_eq_true_eq] at hx
          clear HN HW HAA
          by_cases x1 : x < 2
          · clear hx
            go_wp2
            go_ret
            exact ⟨ret_bool (unhide HX).symm, unhide HA⟩
          · have x2 : (4294967295 : Int) < x := by omega
            clear hx
            go_wp2
            go_ret
            exact ⟨ret_bool (unhide HX).symm, unhide HA⟩
      · have hlt' : ¬ (k : Int) < (is.length : Int) := by omega
        rw [List.take_of_length_le (by omega)] at ha
        rw [ha, Bool.not_false, Bool.true_and] at HF
        clear ha
        go_wp2_with fail
        refine (unhide HR).mono ?_
        rintro e w2 ⟨rfl, b⟩
        obtain ⟨c0, c1, c2, c3⟩ := box4 (unhide HG) b hz
        have lz := Nat.lt_of_lt_of_le hz b.size
        have HB := hide ((unhide HA).trans (b.mono (unhide HA).size))
        generalize unl is = ub at *
        clear b HR
        generalize ks.length = kl at *
        generalize is.length = il at *
        generalize vs.length = vl at *
        by_cases p1 : 0 < kl
        · have p1' : (0 : Int) < (kl : Int) := by omega
          by_cases p2 : il = kl + 1
          · have p2' : (il : Int) = (kl : Int) + 1 := by omega
            by_cases p3 : vl = 0
            · have p3' : (vl : Int) = 0 := by omega
              have HV := hide (show ub = fmr ⟨false, ks, vs, is⟩ em by rw [unhide HF]; simp [p1, p2, p3])
              clear HF
              go_wp2
              go_ret
              exact ⟨ret_bool (by rw [← unhide HV]), unhide HB⟩
            · have p3' : ¬ (vl : Int) = 0 := by omega
              have HV := hide (show false = fmr ⟨false, ks, vs, is⟩ em by rw [unhide HF]; simp [p3])
              clear HF
              go_wp2
              go_ret
              exact ⟨ret_bool (unhide HV), unhide HB⟩
          · have p2' : ¬ (il : Int) = (kl : Int) + 1 := by omega
            have HV := hide (show false = fmr ⟨false, ks, vs, is⟩ em by rw [unhide HF]; simp [p2])
            clear HF
            go_wp2
            go_ret
            exact ⟨ret_bool (unhide HV), unhide HB⟩
        · have p1' : ¬ (0 : Int) < (kl : Int) := by omega
          have HV := hide (show false = fmr ⟨false, ks, vs, is⟩ em by rw [unhide HF]; simp [p1])
          clear HF
          go_wp2
          go_ret
          exact ⟨ret_bool (unhide HV), unhide HB⟩
  · have HF := hide (show fmr ⟨true, ks, vs, is⟩ em = (!anyB lng vs && (decide (vs.length = ks.length) && (decide (is.length = 0) && (em || decide (0 < ks.length))))) by
      unfold fmr agl
      simp only [if_true]
      cases anyB lng vs <;> simp [Bool.and_assoc])
    go_enter Tryz.func79, Tryz.ntmps79
    go_wp2
    clear hW
    go_loopw [5] (fun i wr => ∃ k : Nat, k ≤ vs.length ∧ i = .int .i64 k ∧ anyB lng (vs.take k) = false ∧ wr = W1) (fun i _ => vs.length - (Go.RowKit.intOf i).toNat)
    case atStart => exact ⟨0, by omega, rfl, rfl, rfl⟩
    case round =>
      obtain ⟨k, hk, rfl, ha, rfl⟩ := hrel
      by_cases hlt : k < vs.length
      · have hlt' : (k : Int) < (vs.length : Int) := by omega
        obtain ⟨p, o, rfl, hpl, hc0⟩ := (unhide H2).at hlt
        have HN := hide (anyb_next lng vs k hlt)
        have HW := hide (anyb_hit lng vs k hlt)
        have hxl := unhide HL2 k
        generalize vs.getD k [] = x at *
        have HAA := hide ha
        clear ha HL2
        cases hx : lng x
        · have HA2 := hide (show anyB lng (vs.take (k + 1)) = false by rw [unhide HN, unhide HAA, hx]; rfl)
          unfold lng at hx
          simp only [decide_eq_false_iff_not] at hx
          have q1 : ¬ (200 : Int) < (x.length : Int) := by omega
          clear HN HW HAA hx
          go_wp2
          go_roundw
          case measure => simp [Go.RowKit.intOf]; omega
          case rel => exact ⟨k + 1, by omega, by go_num, unhide HA2, by first | trivial | rfl⟩
        · have HX := hide (show fmr ⟨true, ks, vs, is⟩ em = false by rw [unhide HF, unhide HW hx]; rfl)
          unfold lng at hx
          simp only [decide_eq_true_eq] at hx
          have q1 : (200 : Int) < (x.length : Int) := by omega
          clear HN HW HAA hx
          go_wp2
          go_ret
          exact ⟨ret_bool (unhide HX).symm, unhide HA⟩
      · have hlt' : ¬ (k : Int) < (vs.length : Int) := by omega
        rw [List.take_of_length_le (by omega)] at ha
        rw [ha, Bool.not_false, Bool.true_and] at HF
        clear ha
        generalize ks.length = kl at *
        generalize is.length = il at *
        generalize vs.length = vl at *
        by_cases p1 : vl = kl
        · have p1' : (vl : Int) = (kl : Int) := by omega
          by_cases p2 : il = 0
          · have p2' : (il : Int) = 0 := by omega
            cases em
            · have HV := hide (show decide ((0 : Int) < (kl : Int)) = fmr ⟨true, ks, vs, is⟩ false by rw [unhide HF]; simp [p1, p2])
              clear HF
              by_cases p3 : 0 < kl
              · have p3' : (0 : Int) < (kl : Int) := by omega
                go_wp2
                go_ret
                exact ⟨ret_bool (by rw [← unhide HV]; simp; omega), unhide HA⟩
              · have p3' : ¬ (0 : Int) < (kl : Int) := by omega
                go_wp2
                go_ret
                exact ⟨ret_bool (by rw [← unhide HV]; simp; omega), unhide HA⟩
            · have HV := hide (show true = fmr ⟨true, ks, vs, is⟩ true by rw [unhide HF]; simp [p1, p2])
              clear HF
              go_wp2
              go_ret
              exact ⟨ret_bool (unhide HV), unhide HA⟩
          · have p2' : ¬ (il : Int) = 0 := by omega
            have HV := hide (show false = fmr ⟨true, ks, vs, is⟩ em by rw [unhide HF]; simp [p2])
            clear HF
            go_wp2
            go_ret
            exact ⟨ret_bool (unhide HV), unhide HA⟩
        · have p1' : ¬ (vl : Int) = (kl : Int) := by omega
          have HV := hide (show false = fmr ⟨true, ks, vs, is⟩ em by rw [unhide HF]; simp [p1])
          clear HF
          go_wp2
          go_ret
          exact ⟨ret_bool (unhide HV), unhide HA⟩
end Go.Proofs.YtllialbdofklgaaGreatDoor
