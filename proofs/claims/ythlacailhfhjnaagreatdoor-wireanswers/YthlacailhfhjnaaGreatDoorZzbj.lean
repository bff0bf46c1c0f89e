import Derived.Test.YthlacailhfhjnaaGreatDoorZzbi
import Derived.Test.YthlacailhfhjnaaGreatDoorZzai
import Derived.BigRegion
namespace Go.Proofs.YthlacailhfhjnaaGreatDoor
open Go.RowKit Go.Lib
theorem num_eq (s : Bs) : num s = (s.all dgt && !(s == []) && !(decide (1 < s.length) && s.head? == some 48)) := by
  unfold num
  match s with
  | [] => rfl
  | [c] =>
    by_cases h : c = 48
    · subst h; decide
    · have hb : (c == 48) = false := by simpa using h
      simp [hb]
  | c :: d :: l =>
    by_cases h : c = 48
    · subst h
      simp
    · have hb : (c == 48) = false := by simpa using h
      simp [hb]
theorem vl_mono (s t : Bs) (a : Nat) : vl a s ≤ vl a (s ++ t) := by
  unfold vl
  rw [List.foldl_append]
  generalize s.foldl (fun a c => a * 10 + (c.toNat - 48)) a = x
  induction t generalizing x with
  | nil => exact Nat.le_refl _
  | cons c t ih =>
    rw [List.foldl_cons]
    exact Nat.le_trans (by omega) (ih _)
theorem vl_next (s : Bs) (k : Nat) (h : k < s.length) : vl 0 (s.take (k + 1)) = vl 0 (s.take k) * 10 + (s[k].toNat - 48) := by
  rw [List.take_succ_eq_append_getElem h]
  unfold vl
  rw [List.foldl_append]
  rfl
def szv (s : Bs) : Value := if num s = false then .tuple #[.int .i64 0, .int .i64 52] else if 4000 < vl 0 s then .tuple #[.int .i64 0, .int .i64 53] else .tuple #[.int .i64 (vl 0 s : Nat), .int .i64 0]
set_option maxHeartbeats 4000000 in
set_option maxRecDepth 8000 in
theorem rsize_any (s : Bs) (w : World) (hs : s.length ≤ 9223372036854775806) : Calls Tryz.prog 84 #[S s] w fun e w' => e = .returned (szv s) ∧ w' = w := by
  have HW := hide (within_any s 48 57 w hs)
  rw [wth_dgt] at HW
  have HN := hide (num_eq s)
  have HR := hide (show szv s = if num s = false then .tuple #[.int .i64 0, .int .i64 52] else if 4000 < vl 0 s then .tuple #[.int .i64 0, .int .i64 53] else .tuple #[.int .i64 (vl 0 s : Nat), .int .i64 0] from rfl)
  by_cases hd : s.all dgt = true
  · rw [hd] at HW
    cases s with
    | nil =>
      have hF : szv [] = .tuple #[.int .i64 0, .int .i64 52] := rfl
      rw [hF]
      clear HN HR hd hs
      go_enter Tryz.func84, Tryz.ntmps84
      go_wp2_with (refine (unhide HW).mono ?_; rintro e w' ⟨rfl, rfl⟩)
      go_ret2
      exact ⟨rfl, rfl⟩
    | cons c r =>
      generalize szv (c :: r) = R at *
      by_cases hz : c = 48 ∧ r ≠ []
      · obtain ⟨rfl, hr⟩ := hz
        have hn : num (48 :: r) = false := by
          rw [unhide HN]
          cases r with
          | nil => exact absurd rfl hr
          | cons d r => simp
        have hF := unhide HR
        rw [hn, if_pos rfl] at hF
        subst hF
        have hl : (1 : Int) < ((48 :: r : Bs).length : Int) := by
          cases r with
          | nil => exact absurd rfl hr
          | cons d r => simp; omega
        have hsz : 0 < (ByteArray.mk (48 :: r : Bs).toArray).size := by rw [ba_size]; simp
        have hC : (ByteArray.mk (48 :: r : Bs).toArray)[0]'hsz = 48 := rfl
        have h48 : (((48 : UInt8).toNat : Nat) : Int) = 48 := rfl
        clear hr hd HN HR hn
        go_enter Tryz.func84, Tryz.ntmps84
        go_wp2_with (refine (unhide HW).mono ?_; rintro e w' ⟨rfl, rfl⟩)
        go_ret2
        exact ⟨rfl, rfl⟩
      · have hn : num (c :: r) = true := by
          rw [unhide HN, hd]
          cases r with
          | nil => rfl
          | cons d r =>
            have : c ≠ 48 := fun e => hz ⟨e, by simp⟩
            simp [this]
        have hF := unhide HR
        rw [hn] at hF
        simp only [Bool.true_eq_false, if_false] at hF
        have HF := hide hF
        have hcase : (r.length = 0) ∨ (0 < r.length ∧ c.toNat ≠ 48) := by
          cases r with
          | nil => exact .inl rfl
          | cons d r => exact .inr ⟨by simp, fun e => hz ⟨UInt8.toNat_inj.1 e, by simp⟩⟩
        obtain ⟨s, hsE⟩ : ∃ s, s = c :: r := ⟨_, rfl⟩
        have hsl : s.length = r.length + 1 := by rw [hsE]; rfl
        have hsz : 0 < (ByteArray.mk s.toArray).size := by rw [ba_size, hsl]; omega
        have hC : (ByteArray.mk s.toArray)[0]'hsz = c := by subst hsE; rfl
        have hne : (s == []) = false := by rw [hsE]; rfl
        rw [← hsE] at hd hs HW HF ⊢
        clear hF hn HN HR hz
        have hstep : ∀ k (h : k < s.length), 48 ≤ s[k].toNat ∧ s[k].toNat ≤ 57 := fun k h => by
          have := List.all_eq_true.1 hd _ (List.getElem_mem h)
          unfold dgt at this
          simpa using this
        have HSTEP := hide hstep
        clear hd hstep
        have HC := hide hcase
        have HSL := hide hsl
        clear hcase hsl hsE
        have pre : (decide ((1 : Int) < (s.length : Int)) = false) ∨ ((1 : Int) < (s.length : Int) ∧ (((c.toNat : Nat) : Int) == 48) = false) := by
          have := unhide HSL
          rcases unhide HC with h | ⟨h1, h2⟩
          · left; exact decide_eq_false (by omega)
          · right; exact ⟨by omega, by rw [beq_eq_false_iff_ne]; omega⟩
        rcases pre with i1 | ⟨i1, i2⟩
        all_goals
          go_enter Tryz.func84, Tryz.ntmps84
          go_wp2_with (refine (unhide HW).mono ?_; rintro e w' ⟨rfl, rfl⟩)
          go_loop [5, 6] (fun n i => ∃ k : Nat, k ≤ s.length ∧ i = .int .i64 k ∧ n = .int .i64 (vl 0 (s.take k) : Nat) ∧ vl 0 (s.take k) ≤ 4000) (fun _ i => s.length - (Go.RowKit.intOf i).toNat)
          case atStart => exact ⟨0, by omega, rfl, rfl, by simp [vl]⟩
          case round =>
            obtain ⟨k, hk, rfl, rfl, hv⟩ := hrel
            by_cases hlt : k < s.length
            · have hsz2 : k < (ByteArray.mk s.toArray).size := by simpa [ByteArray.size] using hlt
              have hC2 : (ByteArray.mk s.toArray)[k]'hsz2 = s[k] := rfl
              have hklt : (k : Int) < (s.length : Int) := by omega
              have hdg := unhide HSTEP k hlt
              have hnx := vl_next s k hlt
              have hmono : vl 0 (s.take (k + 1)) ≤ vl 0 s := by
                have := vl_mono (s.take (k + 1)) (s.drop (k + 1)) 0
                rw [List.take_append_drop] at this
                exact this
              generalize s[k] = d at *
              generalize vl 0 (s.take k) = N0 at *
              have HNX := hide hnx
              have HMO := hide hmono
              clear hnx hmono
              have e8 : ((d.toNat : Int) - 48) % 256 = (d.toNat : Int) - 48 := Int.emod_eq_of_lt (by omega) (by omega)
              by_cases hgt : 4000 < N0 * 10 + (d.toNat - 48)
              · have j1 : (4000 : Int) < 10 * (N0 : Int) + ((d.toNat : Int) - 48) := by omega
                go_wp2
                go_ret2
                have e1 := unhide HNX
                have e2 := unhide HMO
                refine ⟨?_, rfl⟩
                rw [unhide HF, if_pos (by omega)]
                rfl
              · have j1 : ¬ (4000 : Int) < 10 * (N0 : Int) + ((d.toNat : Int) - 48) := by omega
                go_wp2
                refine ⟨⟨k + 1, by omega, by go_num, ?_, by rw [unhide HNX]; omega⟩, ?_⟩
                · rw [unhide HNX]
                  congr 1
                  omega
                · simp [Go.RowKit.intOf]; omega
            · have e : s.take k = s := List.take_of_length_le (by omega)
              rw [e] at hv ⊢
              have hklt : ¬ (k : Int) < (s.length : Int) := by omega
              have hF := unhide HF
              rw [if_neg (by omega)] at hF
              have HF2 := hide hF
              clear hF
              generalize vl 0 s = NN at *
              go_wp2
              go_ret2
              exact ⟨by rw [unhide HF2]; rfl, rfl⟩
  · have hd' : s.all dgt = false := by simpa using hd
    rw [hd'] at HW
    have hn : num s = false := by rw [unhide HN, hd']; rfl
    have hF := unhide HR
    rw [hn, if_pos rfl] at hF
    have HF := hide hF
    clear hF hn hd hd' HN HR
    generalize szv s = R at *
    go_enter Tryz.func84, Tryz.ntmps84
    go_wp2_with (refine (unhide HW).mono ?_; rintro e w' ⟨rfl, rfl⟩)
    go_ret2
    exact ⟨by rw [unhide HF]; rfl, rfl⟩
end Go.Proofs.YthlacailhfhjnaaGreatDoor
/- The first line of an answer, as the document's own function reads it. -/
namespace Go.Proofs.YthlacailhfhjnaaGreatDoor
open Go.Lib
theorem num_three {x : Bs} (h : num x = true) (h1 : 100 ≤ vl 0 x) (h2 : vl 0 x ≤ 599) : ∃ a b c, x = [a, b, c] ∧ dgt a = true ∧ dgt b = true ∧ dgt c = true := by
  unfold num at h
  rw [Bool.or_eq_true] at h
  rcases h with h | h
  · have : x = [48] := by simpa using h
    subst this
    exact absurd h1 (by decide)
  · simp only [Bool.and_eq_true, Bool.not_eq_true'] at h
    obtain ⟨⟨_, h4⟩, h5⟩ := h
    match x, h1, h2, h4, h5 with
    | [], h1, _, _, _ => exact absurd h1 (by decide)
    | [a], h1, _, _, h5 =>
      have ha : dgt a = true := by simpa using h5
      simp [dgt] at ha
      simp [vl] at h1
      omega
    | [a, b], h1, _, _, h5 =>
      simp at h5
      obtain ⟨ha, hb⟩ := h5
      simp [dgt] at ha hb
      simp [vl] at h1
      omega
    | [a, b, c], _, _, _, h5 =>
      simp at h5
      exact ⟨a, b, c, rfl, h5.1, h5.2.1, h5.2.2⟩
    | a :: b :: c :: d :: r, _, h2, h4, h5 =>
      exfalso
      have hm := vl_mono [a, b, c, d] r 0
      have ha : dgt a = true := by simp at h5; exact h5.1
      have hne : a ≠ 48 := by simpa using h4
      simp [dgt] at ha
      have : a.toNat ≠ 48 := fun e => hne (UInt8.toNat_inj.1 e)
      have e : vl 0 [a, b, c, d] = (((0 * 10 + (a.toNat - 48)) * 10 + (b.toNat - 48)) * 10 + (c.toNat - 48)) * 10 + (d.toNat - 48) := rfl
      rw [e] at hm
      have : vl 0 (a :: b :: c :: d :: r) = vl 0 ([a, b, c, d] ++ r) := rfl
      omega
/-- What the document's function asks of the line. -/
def tlv (s : Bs) : Nat := 100 * ((s.getD 9 0).toNat - 48) + 10 * ((s.getD 10 0).toNat - 48) + ((s.getD 11 0).toNat - 48)
def tlb (s : Bs) : Bool := decide (13 ≤ s.length) && s.take 8 == vers && s.getD 8 0 == 32 && s.getD 12 0 == 32 && ((s.drop 9).take 3).all dgt && (s.drop 13).all shn && decide (100 ≤ tlv s ∧ tlv s ≤ 599)
theorem opA_tlb (s : Bs) : opA s = if tlb s = true then some ⟨[], [], tlv s⟩ else none := by
  by_cases hl : 13 ≤ s.length
  · match s, hl with
    | c0 :: c1 :: c2 :: c3 :: c4 :: c5 :: c6 :: c7 :: c8 :: c9 :: c10 :: c11 :: c12 :: r, _ =>
      by_cases hpre : (vers ++ [32]).isPrefixOf (c0 :: c1 :: c2 :: c3 :: c4 :: c5 :: c6 :: c7 :: c8 :: c9 :: c10 :: c11 :: c12 :: r) = true
      · have hp : [c0, c1, c2, c3, c4, c5, c6, c7] = vers ∧ c8 = 32 := by
          simp [vers] at hpre
          simp [vers]
          obtain ⟨p0, p1, p2, p3, p4, p5, p6, p7, p8⟩ := hpre
          exact ⟨⟨p0.symm, p1.symm, p2.symm, p3.symm, p4.symm, p5.symm, p6.symm, p7.symm⟩, p8.symm⟩
        obtain ⟨hv, rfl⟩ := hp
        have hdr : (c0 :: c1 :: c2 :: c3 :: c4 :: c5 :: c6 :: c7 :: 32 :: c9 :: c10 :: c11 :: c12 :: r).drop 9 = c9 :: c10 :: c11 :: c12 :: r := rfl
        have htl : tlb (c0 :: c1 :: c2 :: c3 :: c4 :: c5 :: c6 :: c7 :: 32 :: c9 :: c10 :: c11 :: c12 :: r) = (c12 == 32 && (dgt c9 && (dgt c10 && dgt c11)) && r.all shn && decide (100 ≤ 100 * (c9.toNat - 48) + 10 * (c10.toNat - 48) + (c11.toNat - 48) ∧ 100 * (c9.toNat - 48) + 10 * (c10.toNat - 48) + (c11.toNat - 48) ≤ 599)) := by
          unfold tlb tlv
          have e : (c0 :: c1 :: c2 :: c3 :: c4 :: c5 :: c6 :: c7 :: 32 :: c9 :: c10 :: c11 :: c12 :: r).take 8 = vers := hv
          rw [e]
          simp
        have htv : tlv (c0 :: c1 :: c2 :: c3 :: c4 :: c5 :: c6 :: c7 :: 32 :: c9 :: c10 :: c11 :: c12 :: r) = 100 * (c9.toNat - 48) + 10 * (c10.toNat - 48) + (c11.toNat - 48) := rfl
        rw [htl, htv]
        unfold opA
        rw [hdr, hpre]
        generalize hT : c9 :: c10 :: c11 :: c12 :: r = T
        by_cases hc : (decide ((hd 32 T).length < T.length) && num (hd 32 T) && (tl 32 T).all shn && decide (100 ≤ vl 0 (hd 32 T) ∧ vl 0 (hd 32 T) ≤ 599)) = true
        · simp only [Bool.and_eq_true, decide_eq_true_eq] at hc
          obtain ⟨⟨⟨g1, g2⟩, g3⟩, g4, g5⟩ := hc
          obtain ⟨a, b, c, e, ha, hb, hcc⟩ := num_three g2 g4 g5
          rcases (hd_split 32 T).2 with ⟨_, q⟩ | ⟨q, _⟩
          · rw [e] at q
            rw [← hT] at q
            simp only [List.cons_append, List.nil_append, List.cons.injEq] at q
            obtain ⟨rfl, rfl, rfl, rfl, hr⟩ := q
            rw [e] at g4 g5
            have ev : vl 0 [c9, c10, c11] = 100 * (c9.toNat - 48) + 10 * (c10.toNat - 48) + (c11.toNat - 48) := by
              show ((0 * 10 + (c9.toNat - 48)) * 10 + (c10.toNat - 48)) * 10 + (c11.toNat - 48) = _
              omega
            rw [ev] at g4 g5
            rw [if_pos (by simp only [Bool.true_and, Bool.and_eq_true, decide_eq_true_eq]; rw [e, ev]; exact ⟨⟨⟨by rw [e] at g1; exact g1, by rw [e] at g2; exact g2⟩, g3⟩, g4, g5⟩), if_pos (by rw [hr, hT]; simp only [Bool.and_eq_true, decide_eq_true_eq]; exact ⟨⟨⟨by simp, ha, hb, hcc⟩, g3⟩, g4, g5⟩), e, ev]
          · omega
        · rw [if_neg (by simpa using hc), if_neg]
          intro h
          simp only [Bool.and_eq_true, decide_eq_true_eq] at h
          obtain ⟨⟨⟨h12, h9, h10, h11⟩, hr⟩, v1, v2⟩ := h
          have h12' : c12 = 32 := by simpa using h12
          subst h12'
          have nd : ∀ x : UInt8, dgt x = true → x ≠ 32 := fun x hx e => by subst e; exact absurd hx (by decide)
          have hh := hd_app 32 [c9, c10, c11] r (by intro x hx; simp at hx; rcases hx with rfl | rfl | rfl <;> exact nd _ (by assumption))
          have eT : T = [c9, c10, c11] ++ 32 :: r := hT.symm
          rw [← eT] at hh
          apply hc
          have ev : vl 0 [c9, c10, c11] = 100 * (c9.toNat - 48) + 10 * (c10.toNat - 48) + (c11.toNat - 48) := by
            show ((0 * 10 + (c9.toNat - 48)) * 10 + (c10.toNat - 48)) * 10 + (c11.toNat - 48) = _
            omega
          have hn9 : c9 ≠ 48 := fun e => by
            subst e
            simp [dgt] at h10 h11
            have : (48 : UInt8).toNat = 48 := rfl
            omega
          simp only [Bool.and_eq_true, decide_eq_true_eq]
          rw [hh.1, hh.2, ev]
          refine ⟨⟨⟨by rw [eT]; simp, ?_⟩, hr⟩, v1, v2⟩
          unfold num
          simp [hn9, h9, h10, h11]
      · have hpre' : (vers ++ [32]).isPrefixOf (c0 :: c1 :: c2 :: c3 :: c4 :: c5 :: c6 :: c7 :: c8 :: c9 :: c10 :: c11 :: c12 :: r) = false := Bool.eq_false_iff.2 hpre
        have h1 : opA (c0 :: c1 :: c2 :: c3 :: c4 :: c5 :: c6 :: c7 :: c8 :: c9 :: c10 :: c11 :: c12 :: r) = none := by
          unfold opA
          rw [hpre']
          rfl
        rw [h1, if_neg]
        intro h
        unfold tlb at h
        simp only [Bool.and_eq_true] at h
        have e1 := h.1.1.1.1.1.2
        have e2 := h.1.1.1.1.2
        apply hpre
        have e3 : [c0, c1, c2, c3, c4, c5, c6, c7] = vers := by simpa using e1
        have e4 : c8 = 32 := by simpa using e2
        subst e4
        simp only [vers, List.cons.injEq, and_true] at e3
        obtain ⟨rfl, rfl, rfl, rfl, rfl, rfl, rfl, rfl⟩ := e3
        rfl
  · rw [if_neg (by unfold tlb; simp [hl])]
    unfold opA
    rw [if_neg]
    intro h
    simp only [Bool.and_eq_true, decide_eq_true_eq] at h
    obtain ⟨⟨⟨⟨g0, g1⟩, g2⟩, _⟩, g4, g5⟩ := h
    obtain ⟨a, b, c, e, _⟩ := num_three g2 g4 g5
    rw [e] at g1
    simp at g1
    omega
end Go.Proofs.YthlacailhfhjnaaGreatDoor
namespace Go.Proofs.YthlacailhfhjnaaGreatDoor
open Go.RowKit Go.Lib
/-- What was got, in its box. -/
def gcs (m p : Bs) (st : Int) (hv : Value) (b : Bs) (n : Int) (wh : Bool) (e : Int) : Array Value := #[S m, S p, .int .i64 st, hv, S b, .int .i64 n, .bool wh, .int .i64 e]
/-- What a first line of an answer leaves in the box. -/
def Tld (P : Nat) (m p : Bs) (hv : Value) (b : Bs) (n : Int) (wh : Bool) (e : Int) (s : Bs) (w w' : World) : Prop := ∃ z : Int, w'.heap[P]? = some (.cells (gcs m p z hv b n wh e) 93 (0, 0)) ∧ Only (fun k => k = P) w w' ∧ (tlb s = true → z = tlv s)
set_option maxHeartbeats 4000000 in
set_option maxRecDepth 8000 in
theorem rtold_any (P : Nat) (m p : Bs) (st : Int) (hv : Value) (b : Bs) (n : Int) (wh : Bool) (e : Int) (s : Bs) (w : World) (hs : s.length ≤ 1000000) (hx : w.heap[P]? = some (.cells (gcs m p st hv b n wh e) 93 (0, 0))) :
    Calls Tryz.prog 78 #[ptr P, S s] w fun r w' => r = .returned (.bool (tlb s)) ∧ Tld P m p hv b n wh e s w w' := by
  have HT := hide (show tlb s = (decide (13 ≤ s.length) && s.take 8 == vers && s.getD 8 0 == 32 && s.getD 12 0 == 32 && ((s.drop 9).take 3).all dgt && (s.drop 13).all shn && decide (100 ≤ tlv s ∧ tlv s ≤ 599)) from rfl)
  have HX := hide hx
  obtain ⟨B, hB0⟩ : ∃ B, B = tlb s := ⟨_, rfl⟩
  have HB0 := hide hB0
  rw [← hB0] at HT ⊢
  clear hB0
  have hsz : (ByteArray.mk s.toArray).size = s.length := ba_size s
  have hidx : ∀ j (h : j < (ByteArray.mk s.toArray).size), (ByteArray.mk s.toArray)[j]'h = s.getD j 0 := fun j h => by
    have h' : j < s.length := by rw [hsz] at h; exact h
    show s.toArray[j] = _
    simp [h']
  have h8l : ((ByteArray.mk s.toArray).extract 0 8).toList = s.take 8 := by rw [extract_toList]; simp
  have HI := hide hidx
  have H8 := hide h8l
  clear hidx h8l hx
  by_cases h13 : 13 ≤ s.length
  · have i1 : ¬ (s.length : Int) < 13 := by omega
    have hle8 : (8 : Int) ≤ (s.length : Int) := by omega
    have hl8 : 8 < (ByteArray.mk s.toArray).size := by rw [hsz]; omega
    have hl12 : 12 < (ByteArray.mk s.toArray).size := by rw [hsz]; omega
    have hC8 := unhide HI 8 hl8
    have hC12 := unhide HI 12 hl12
    by_cases h8 : s.take 8 = vers
    · have f8 : ((ByteArray.mk s.toArray).extract 0 8).toList = [72, 84, 84, 80, 47, 49, 46, 49] := by rw [unhide H8, h8]; rfl
      by_cases hb8 : s.getD 8 0 = 32
      · have n8 : (((s.getD 8 0).toNat : Nat) : Int) = 32 := by rw [hb8]; rfl
        by_cases hb12 : s.getD 12 0 = 32
        · have n12 : (((s.getD 12 0).toNat : Nat) : Int) = 32 := by rw [hb12]; rfl
          have hl9 : 9 < (ByteArray.mk s.toArray).size := by rw [hsz]; omega
          have hl10 : 10 < (ByteArray.mk s.toArray).size := by rw [hsz]; omega
          have hl11 : 11 < (ByteArray.mk s.toArray).size := by rw [hsz]; omega
          have hC9 := unhide HI 9 hl9
          have hC10 := unhide HI 10 hl10
          have hC11 := unhide HI 11 hl11
          have x1 : (ByteArray.mk s.toArray).extract 9 12 = ⟨((s.drop 9).take 3).toArray⟩ := by rw [extract_eq]
          have x2 : (ByteArray.mk s.toArray).extract 13 s.length = ⟨(s.drop 13).toArray⟩ := by rw [extract_eq, List.take_of_length_le (by simp)]
          have HW1 := hide (fun W => within_any ((s.drop 9).take 3) 48 57 W (by simp; omega))
          have HW2 := hide (fun W => within_any (s.drop 13) 32 126 W (by simp; omega))
          rw [wth_dgt] at HW1
          rw [wth_shn] at HW2
          have hB1 : B = (((s.drop 9).take 3).all dgt && (s.drop 13).all shn && decide (100 ≤ tlv s ∧ tlv s ≤ 599)) := by
            rw [unhide HT, h8, hb8, hb12, decide_eq_true h13]
            simp
          have hv1 : ((s.drop 9).take 3).all dgt = true → tlv s = 100 * ((s.getD 9 0).toNat - 48) + 10 * ((s.getD 10 0).toNat - 48) + ((s.getD 11 0).toNat - 48) ∧ (48 ≤ (s.getD 9 0).toNat ∧ (s.getD 9 0).toNat ≤ 57) ∧ (48 ≤ (s.getD 10 0).toNat ∧ (s.getD 10 0).toNat ≤ 57) ∧ (48 ≤ (s.getD 11 0).toNat ∧ (s.getD 11 0).toNat ≤ 57) := by
            intro h
            have hg : ∀ j, j < 3 → 48 ≤ (s.getD (9 + j) 0).toNat ∧ (s.getD (9 + j) 0).toNat ≤ 57 := fun j hj => by
              have hjl : j < ((s.drop 9).take 3).length := by simp; omega
              have h1 := List.all_eq_true.1 h _ (List.getElem_mem hjl)
              have h2 : ((s.drop 9).take 3)[j] = s.getD (9 + j) 0 := by
                simp [show 9 + j < s.length by omega]
              rw [h2] at h1
              unfold dgt at h1
              simpa using h1
            exact ⟨rfl, hg 0 (by omega), hg 1 (by omega), hg 2 (by omega)⟩
          have HV := hide hv1
          have HB1 := hide hB1
          have hx := unhide HX
          have hPl := lt_of_row hx
          have hc2 : w.cell? ⟨P, 2, none⟩ = some (.int .i64 st) := cell_of_row w _ 2 _ 93 (0, 0) hx
          have hz2 : w.frozen? ⟨P, 2, none⟩ = false := frozen_of_heap hx 2
          have HSET := hide (fun z : Int => (show (w.setCell ⟨P, 2, none⟩ (.int .i64 z)).heap[P]? = some (.cells (gcs m p z hv b n wh e) 93 (0, 0)) from heap_setCell_same w P 2 _ 93 _ hx))
          have l13 : (13 : Int) ≤ (s.length : Int) := by omega
          have l12 : (12 : Int) ≤ (s.length : Int) := by omega
          clear hB1 hv1 hx h8
          generalize ((s.drop 9).take 3).all dgt = D at *
          generalize (s.drop 13).all shn = R at *
          generalize s.getD 9 0 = c9 at *
          generalize s.getD 10 0 = c10 at *
          generalize s.getD 11 0 = c11 at *
          generalize s.getD 12 0 = c12 at *
          generalize s.getD 8 0 = c8 at *
          go_enter Tryz.func78, Tryz.ntmps78
          go_wp2_with fail
          refine (unhide HW1 w).mono ?_
          rintro e1 w1 ⟨rfl, hw1⟩
          rw [hw1]
          clear hw1
          go_wp2_with fail
          refine (unhide HW2 w).mono ?_
          rintro e2 w2 ⟨rfl, hw2⟩
          rw [hw2]
          clear hw2 x1 x2 HW1 HW2
          have hc9 := c9.toNat_lt
          have hc10 := c10.toNat_lt
          have hc11 := c11.toNat_lt
          go_wp2_with fail
          go_region
          have HZ := hide (show D = true → 100 * (((c9.toNat : Int) - 48) % 256) + 10 * (((c10.toNat : Int) - 48) % 256) + ((c11.toNat : Int) - 48) % 256 = (tlv s : Int) from fun h => by
            obtain ⟨v1, v2, v3, v4⟩ := unhide HV h
            rw [v1]
            omega)
          generalize 100 * (((c9.toNat : Int) - 48) % 256) + 10 * (((c10.toNat : Int) - 48) % 256) + ((c11.toNat : Int) - 48) % 256 = z at *
          have hx2 : ((w.setCell ⟨P, 2, none⟩ (.int .i64 z)).drew).heap[P]? = some (.cells (gcs m p z hv b n wh e) 93 (0, 0)) := unhide HSET z
          have HO := hide (((Only.setCell w ⟨P, 2, none⟩ (.int .i64 z)).trans (Only.drew (fun k => k = P) _) (fun _ _ q => q)))
          clear hc2 hz2
          generalize (w.setCell ⟨P, 2, none⟩ (.int .i64 z)).drew = w3 at *
          have hc2 : w3.cell? ⟨P, 2, none⟩ = some (.int .i64 z) := cell_of_row w3 _ 2 _ 93 (0, 0) hx2
          have hPl3 := lt_of_row hx2
          have HX3 := hide hx2
          clear hx2
          cases D with
          | false =>
            have hBf : B = false := by rw [unhide HB1]; rfl
            subst hBf
            go_wp2
            go_ret
            exact ⟨rfl, z, unhide HX3, unhide HO, fun q => by rw [← unhide HB0] at q; cases q⟩
          | true =>
            have hz := unhide HZ rfl
            cases R with
            | false =>
              have hBf : B = false := by rw [unhide HB1]; rfl
              subst hBf
              clear hz
              go_wp2
              go_ret
              exact ⟨rfl, z, unhide HX3, unhide HO, fun q => by rw [← unhide HB0] at q; cases q⟩
            | true =>
              have hBe : B = decide (100 ≤ tlv s ∧ tlv s ≤ 599) := by rw [unhide HB1]; rfl
              have HZZ := hide hz
              by_cases r1 : 100 ≤ tlv s
              · have z1 : (100 : Int) ≤ z := by omega
                by_cases r2 : tlv s ≤ 599
                · have z2 : z ≤ 599 := by omega
                  have hBt : B = true := by rw [hBe]; simp [r1, r2]
                  subst hBt
                  clear hz hBe r1 r2
                  go_wp2
                  go_ret
                  exact ⟨rfl, z, unhide HX3, unhide HO, fun _ => unhide HZZ⟩
                · have z2 : decide (z ≤ 599) = false := decide_eq_false (by omega)
                  have hBf : B = false := by rw [hBe]; simp [r2]
                  subst hBf
                  clear hz hBe r1 r2
                  go_wp2
                  go_ret
                  exact ⟨rfl, z, unhide HX3, unhide HO, fun q => by rw [← unhide HB0] at q; cases q⟩
              · have z1 : decide ((100 : Int) ≤ z) = false := decide_eq_false (by omega)
                have hBf : B = false := by rw [hBe]; simp [r1]
                subst hBf
                clear hz hBe r1
                go_wp2
                go_ret
                exact ⟨rfl, z, unhide HX3, unhide HO, fun q => by rw [← unhide HB0] at q; cases q⟩
        · have hB : B = false := by
            rw [unhide HT]
            have : (s.getD 12 0 == 32) = false := by simpa using hb12
            rw [this]
            simp
          subst hB
          have n12 : ((((s.getD 12 0).toNat : Nat) : Int) != 32) = true := by
            rw [bne_iff_ne]
            intro q
            exact hb12 (UInt8.toNat_inj.1 (by show (s.getD 12 0).toNat = 32; omega))
          generalize s.getD 12 0 = c12 at *
          generalize s.getD 8 0 = c8 at *
          go_enter Tryz.func78, Tryz.ntmps78
          go_wp2
          go_ret
          exact ⟨rfl, st, unhide HX, Only.refl _ _, fun q => by rw [← unhide HB0] at q; cases q⟩
      · have hB : B = false := by
          rw [unhide HT]
          have : (s.getD 8 0 == 32) = false := by simpa using hb8
          rw [this]
          simp
        subst hB
        have n8 : ((((s.getD 8 0).toNat : Nat) : Int) != 32) = true := by
          rw [bne_iff_ne]
          intro q
          exact hb8 (UInt8.toNat_inj.1 (by show (s.getD 8 0).toNat = 32; omega))
        generalize s.getD 8 0 = c8 at *
        go_enter Tryz.func78, Tryz.ntmps78
        go_wp2
        go_ret
        exact ⟨rfl, st, unhide HX, Only.refl _ _, fun q => by rw [← unhide HB0] at q; cases q⟩
    · have hB : B = false := by
        rw [unhide HT]
        have : (s.take 8 == vers) = false := by simpa using h8
        rw [this]
        simp
      subst hB
      have f8 : ¬ ((ByteArray.mk s.toArray).extract 0 8).toList = [72, 84, 84, 80, 47, 49, 46, 49] := by rw [unhide H8]; exact h8
      have f8b : (((ByteArray.mk s.toArray).extract 0 8).toList == [72, 84, 84, 80, 47, 49, 46, 49]) = false := by rw [beq_eq_false_iff_ne]; exact f8
      clear h8
      go_enter Tryz.func78, Tryz.ntmps78
      go_wp2
      go_ret
      exact ⟨rfl, st, unhide HX, Only.refl _ _, fun q => by rw [← unhide HB0] at q; cases q⟩
  · have hB : B = false := by rw [unhide HT]; simp [h13]
    subst hB
    have i1 : (s.length : Int) < 13 := by omega
    go_enter Tryz.func78, Tryz.ntmps78
    go_wp2
    go_ret
    exact ⟨rfl, st, unhide HX, Only.refl _ _, fun q => by rw [← unhide HB0] at q; cases q⟩
end Go.Proofs.YthlacailhfhjnaaGreatDoor
