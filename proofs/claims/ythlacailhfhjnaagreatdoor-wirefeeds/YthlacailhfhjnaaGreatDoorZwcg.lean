import Derived.Test.YthlacailhfhjnaaGreatDoorWce
import Derived.Test.YthlacailhfhjnaaGreatDoorWcf
import Derived.RegionTactic
import Derived.ChangeAlike
import Derived.BigRegion
namespace Go.Proofs.YthlacailhfhjnaaGreatDoor
open Go.RowKit Go.Lib
def OP (P : Nat) (hv : Value) : Nat → Prop := fun k => k = P ∨ hv.ownBlock = some k
/-- What judgeHeader leaves. -/
structure Hed (op P : Nat) (p' : Ps) (nx hv : Value) (w w' : World) : Prop where
  at_ : ∃ hv', PAt op P p' nx hv' w' ∧ ∀ k, hv'.ownBlock = some k → hv.ownBlock = some k ∨ w.heap.size ≤ k
  only : Only (OP P hv) w w'
theorem PAt.drewN {op P : Nat} {p : Ps} {nx hv : Value} {w : World} (h : PAt op P p nx hv w) (n : Nat) : PAt op P p nx hv (w.drewN n) := h.below (below_dN (Below.refl _ _) n)
theorem Hed.same {op P : Nat} {p : Ps} {nx hv : Value} {w w' : World} (h : PAt op P p nx hv w') (ho : Only (OP P hv) w w') : Hed op P p nx hv w w' := ⟨⟨hv, h, fun _ q => .inl q⟩, ho⟩
theorem trimB_le (l : Bs) : (trimB l 32).length ≤ l.length := by
  unfold trimB trimLeftB trimRightB
  have h1 := List.Sublist.length_le (List.dropWhile_sublist (fun x : UInt8 => x == 32) (l := (List.dropWhile (fun x => x == 32) l.reverse).reverse))
  have h2 := List.Sublist.length_le (List.dropWhile_sublist (fun x : UInt8 => x == 32) (l := l.reverse))
  rw [List.length_reverse] at h1 h2
  omega
set_option maxHeartbeats 8000000 in
set_option maxRecDepth 8000 in
theorem judgeHeader_any {op B P : Nat} {p : Ps} {nx hv : Value} {w : World} (h : PAt op P p nx hv w) (hE : Env B w) (l : Bs) (r : Bool) (hl : l.length ≤ 1000000) (hh : p.hs.length ≤ 32) :
    Calls Tryz.prog 116 #[ptr P, S l, .bool r] w fun e w' => e = .returned (.int .i64 (jHdr p l r).2) ∧ Hed op P (jr (jHdr p l r) p) nx hv w w' := by
  have g1 := hd_le 58 l
  have g2 := tl_le 58 l
  have g3 := trimB_le (tl 58 l)
  have HJ : Hid (jHdr p l r = if !r || !decide ((hd 58 l).length < l.length) || !hnm (hd 58 l) || !(tl 58 l).all shn || alk (hd 58 l) TE then (pov, 51)
    else if alk (hd 58 l) CL then jLen p (trimB (tl 58 l) 32)
    else if p.hs.length = 32 then (pov, 53) else ({ p with hs := p.hs ++ [(hd 58 l, trimB (tl 58 l) 32)] }, 0)) := hide rfl
  have HC := hide (fun W => cut_any l 58 W (by omega))
  have HN := hide (fun W => isHeaderName_any (hd 58 l) W (by omega))
  have HA := hide (fun W => all96_any (tl 58 l) W (by omega))
  have HT := hide (fun W => alike_any (hd 58 l) TE W (by omega))
  have HL := hide (fun W => alike_any (hd 58 l) CL W (by omega))
  have HM := hide (fun W => trim_any (tl 58 l) W (by omega))
  have HE := hide hE
  have hlt := h.lt
  have H := hide h
  have hV : (trimB (tl 58 l) 32).length ≤ 1000000 := by omega
  generalize jHdr p l r = J at *
  generalize decide ((hd 58 l).length < l.length) = D at *
  generalize hnm (hd 58 l) = A1 at *
  generalize alk (hd 58 l) TE = A3 at *
  generalize alk (hd 58 l) CL = A4 at *
  generalize hd 58 l = M at *
  generalize trimB (tl 58 l) 32 = V at *
  generalize (tl 58 l).all shn = A2 at *
  generalize tl 58 l = T at *
  clear g1 g2 g3 h hE
  by_cases hbad : (!r || !D || !A1 || !A2 || A3) = true
  · rw [hbad] at HJ
    have hJ : J = (pov, 51) := by rw [unhide HJ]; rfl
    subst hJ
    clear HJ
    go_enter Tryz.func116, Tryz.ntmps116
    go_wp2_with fail
    refine (unhide HC w).mono ?_
    rintro e w1 ⟨rfl, q1, rfl⟩
    have HP1 := hide ((unhide H).drewN q1)
    have HO1 := hide (Only.drewN (OP P hv) w q1)
    generalize w.drewN q1 = W1 at *
    cases r
    · go_wp2
      go_ret
      exact ⟨rfl, Hed.same (unhide HP1) (unhide HO1)⟩
    cases D
    · go_wp2
      go_ret
      exact ⟨rfl, Hed.same (unhide HP1) (unhide HO1)⟩
    cases A1
    · go_wp2_with (first | (go_at_call 104; refine (unhide HN _).mono ?_; rintro e w' ⟨rfl, hw⟩; rw [hw]; clear hw w') | (go_at_call 86; refine (unhide HA _).mono ?_; rintro e w' ⟨rfl, hw⟩; rw [hw]; clear hw w'))
      go_ret
      exact ⟨rfl, Hed.same (unhide HP1) (unhide HO1)⟩
    cases A2
    · go_wp2_with (first | (go_at_call 104; refine (unhide HN _).mono ?_; rintro e w' ⟨rfl, hw⟩; rw [hw]; clear hw w') | (go_at_call 86; refine (unhide HA _).mono ?_; rintro e w' ⟨rfl, hw⟩; rw [hw]; clear hw w'))
      go_ret
      exact ⟨rfl, Hed.same (unhide HP1) (unhide HO1)⟩
    cases A3
    · simp at hbad
    · go_wp2_with (first | (go_at_call 104; refine (unhide HN _).mono ?_; rintro e w' ⟨rfl, hw⟩; rw [hw]; clear hw w') | (go_at_call 86; refine (unhide HA _).mono ?_; rintro e w' ⟨rfl, hw⟩; rw [hw]; clear hw w'))
      refine (unhide HT _).mono ?_
      rintro e w2 ⟨rfl, q2, rfl⟩
      have HP2 := hide ((unhide HP1).drewN q2)
      have HO2 := hide ((unhide HO1).trans (Only.drewN (OP P hv) W1 q2) (fun _ _ q => q))
      generalize W1.drewN q2 = W2 at *
      go_wp2
      go_ret
      exact ⟨rfl, Hed.same (unhide HP2) (unhide HO2)⟩
  · have hb2 : (!r || !D || !A1 || !A2 || A3) = false := by simpa using hbad
    rw [hb2] at HJ
    simp only [Bool.or_eq_false_iff, Bool.not_eq_false'] at hb2
    obtain ⟨⟨⟨⟨rfl, rfl⟩, rfl⟩, rfl⟩, rfl⟩ := hb2
    clear hbad
    go_enter Tryz.func116, Tryz.ntmps116
    go_wp2_with fail
    refine (unhide HC w).mono ?_
    rintro e w1 ⟨rfl, q1, rfl⟩
    have HE1 := hide ((unhide HE).below (below_dN (Below.refl _ w) q1))
    have HP1 := hide ((unhide H).drewN q1)
    have HO1 := hide (Only.drewN (OP P hv) w q1)
    generalize w.drewN q1 = W1 at *
    go_wp2_with (first | (go_at_call 104; refine (unhide HN _).mono ?_; rintro e w' ⟨rfl, hw⟩; rw [hw]; clear hw w') | (go_at_call 86; refine (unhide HA _).mono ?_; rintro e w' ⟨rfl, hw⟩; rw [hw]; clear hw w'))
    refine (unhide HT _).mono ?_
    rintro e w2 ⟨rfl, q2, rfl⟩
    have HE2 := hide ((unhide HE1).below (below_dN (Below.refl _ W1) q2))
    have HP2 := hide ((unhide HP1).drewN q2)
    have HO2 := hide ((unhide HO1).trans (Only.drewN (OP P hv) W1 q2) (fun _ _ q => q))
    generalize W1.drewN q2 = W2 at *
    go_wp2_with fail
    refine (unhide HM W2).mono ?_
    rintro e w2 ⟨rfl, q3, rfl⟩
    have HE3 := hide ((unhide HE2).below (below_dN (Below.refl _ W2) q3))
    have HP3 := hide ((unhide HP2).drewN q3)
    have HO3 := hide ((unhide HO2).trans (Only.drewN (OP P hv) W2 q3) (fun _ _ q => q))
    generalize W2.drewN q3 = W3 at *
    go_wp2_with fail
    refine (unhide HL W3).mono ?_
    rintro e w2 ⟨rfl, q4, rfl⟩
    have HE4 := hide ((unhide HE3).below (below_dN (Below.refl _ W3) q4))
    have HP4 := hide ((unhide HP3).drewN q4)
    have HO4 := hide ((unhide HO3).trans (Only.drewN (OP P hv) W3 q4) (fun _ _ q => q))
    generalize W3.drewN q4 = W4 at *
    clear HP1 HO1 HP2 HO2 HP3 HO3 HC HN HA HT HL HM
    clear HE1 HE2 HE3 HE
    cases A4
    · by_cases h32 : p.hs.length = 32
      · have hJ : J = (pov, 53) := by rw [unhide HJ, if_neg (by simp), if_neg (by simp), if_pos h32]
        subst hJ
        clear HJ
        obtain ⟨pa, ca, hhv⟩ := owns_form (unhide HP4).hrow
        have d7 : W4.cell? ⟨P, 7, none⟩ = some (.slice pa 32 ca) := by rw [← h32, ← hhv]; exact (unhide HP4).cell 7
        clear hhv h32
        go_wp2
        go_ret
        exact ⟨rfl, Hed.same (unhide HP4) (unhide HO4)⟩
      · have hJ : J = ({ p with hs := p.hs ++ [(M, V)] }, 0) := by rw [unhide HJ, if_neg (by simp), if_neg (by simp), if_neg h32]
        subst hJ
        clear HJ
        obtain ⟨pa, ca, hhv⟩ := owns_form (unhide HP4).hrow
        have HHV := hide hhv
        have d7 : W4.cell? ⟨P, 7, none⟩ = some (.slice pa p.hs.length ca) := by rw [← hhv]; exact (unhide HP4).cell 7
        have HR := hide (by have := (unhide HP4).hrow; rw [hhv] at this; exact this)
        have i32 : ¬ (p.hs.length : Int) = 32 := by omega
        have hz4 : ∀ j, W4.frozen? ⟨P, j, none⟩ = false := (unhide HP4).fz
        have hlt4 := (unhide HP4).lt
        have HNE : ¬ (Value.slice pa p.hs.length ca).ownBlock = some P := by rw [← hhv]; exact (unhide HP4).ne
        have HB4 := hide (unhide HP4).blk
        clear hhv
        go_wp2_with (first | (at_builtin; refine push_own 22 35 _ 2 32 Tryz.underlying22 info35 rfl (by decide) rfl (.tmp 54) (.tmp 58) rfl (.slice pa p.hs.length ca) p.hs.length (cellsF p.hs) (by rfl) W4 (unhide HR) [S M, S V] (by rfl) (by intro u hu; simp at hu; rcases hu with rfl | rfl <;> rfl) (by rfl) (by omega) (by omega) ?_; intro pb cb W5 ho5 hw5 hn5; have hb5 := (hw5.block P hlt4 HNE).trans (unhide HB4); have c57 := (cell_of_row W5 P 7 _ 91 (0, 0) hb5); have z57 := (frozen_of_row W5 P 7 _ 91 hb5); have e57 : W5.cell? ⟨P, 7, none⟩ = some hv := c57; clear c57))
        go_ret
        have hne5 : ∀ k, (Value.slice pb (p.hs.length + 1) cb).ownBlock = some k → k ≠ P := fun k hk e => by
          obtain ⟨cs, q⟩ := owns_lt ho5 k hk
          rw [e, hb5] at q
          simp at q
        refine ⟨rfl, ⟨⟨.slice pb (p.hs.length + 1) cb, ⟨?_, ?_⟩, ?_⟩, ?_⟩⟩
        · rw [heap_setCell_same W5 P 7 _ 91 _ hb5]
          rfl
        · have e : (jr ({ p with hs := p.hs ++ [(M, V)] }, 0) p).hs = p.hs ++ [(M, V)] := rfl
          rw [e, cellsF_append, List.length_append]
          exact owns_same ho5 (fun k hk => heap_setCell_other W5 ⟨P, 7, none⟩ k _ (hne5 k hk))
        · intro k hk
          rw [unhide HHV]
          rcases hn5 k hk with q | q
          · exact .inl q
          · exact .inr (Nat.le_trans (unhide HO4).size q)
        · refine ((unhide HO4).trans hw5 (fun k _ q => .inr ?_)).put _ _ (.inl (.inl rfl))
          rw [unhide HHV]
          exact q
    · have HJL := hide (judgeLength_any (unhide HP4) (unhide HE4) V hV)
      have hJ : jLen p V = J := by rw [unhide HJ, if_neg (by simp), if_pos rfl]
      rw [hJ] at HJL
      clear HJ hJ
      go_wp2_with fail
      refine (unhide HJL).mono ?_
      rintro e w5 ⟨rfl, hp5, ho5⟩
      have HP5 := hide hp5
      have HO5 := hide ((unhide HO4).trans ho5 (fun _ _ q => .inl q))
      clear hp5 ho5
      go_wp2
      go_ret
      exact ⟨rfl, Hed.same (unhide HP5) (unhide HO5)⟩
end Go.Proofs.YthlacailhfhjnaaGreatDoor
namespace Go.Proofs.YthlacailhfhjnaaGreatDoor
open Go.RowKit Go.Lib
/-- What judge leaves. -/
structure Jud (op P : Nat) (p' : Ps) (nx hv : Value) (w w' : World) : Prop where
  at_ : ∃ nx' hv', PAt op P p' nx' hv' w' ∧ (∀ k, hv'.ownBlock = some k → hv.ownBlock = some k ∨ w.heap.size ≤ k) ∧ (p'.st ≠ 2 → nx' = nx) ∧ (p'.st = 2 → ∃ L Q Z v, nx' = nxt 2 L Q Z ∧ LAt P p' L Q Z v w' ∧ w.heap.size ≤ L ∧ w.heap.size ≤ Q ∧ w.heap.size ≤ Z ∧ ∀ k, v.ownBlock = some k → w.heap.size ≤ k)
  only : Only (OP P hv) w w'
set_option maxHeartbeats 8000000 in
set_option maxRecDepth 8000 in
theorem judge47_any {B P : Nat} {p : Ps} {nx hv : Value} {w : World} (h : PAt 47 P p nx hv w) (hE : Env B w) (s : Bs) (hl : s.length ≤ 10000) (hst : p.st ≤ 1) (hb : p.bd = []) (hlen : p.len ≤ 4000) (hh : p.hs.length ≤ 32) :
    Calls Tryz.prog 100 #[ptr P, S s] w fun e w' => e = .returned (.int .i64 (judge opM p s).2) ∧ Jud 47 P (jr (judge opM p s) p) nx hv w w' := by
  have hcl : (cutr s).length ≤ s.length := by unfold cutr; split <;> simp
  have HC := hide (cutr_any s w (by omega))
  have c0 : w.cell? ⟨P, 0, none⟩ = some (.int .i64 p.st) := h.cell 0
  have hlt := h.lt
  have H := hide h
  have HJ : Hid (judge opM p s = if p.st = 0 then jFst opM p (cutr s) (ret s) else if ret s && cutr s == [] then (jEnd p, 0) else jHdr p (cutr s) (ret s)) := hide rfl
  by_cases h0 : p.st = 0
  · have HF := hide (judgeFirst47_any h hE (cutr s) (ret s) (by omega) h0)
    have hJ : jFst opM p (cutr s) (ret s) = judge opM p s := by rw [unhide HJ, if_pos h0]
    rw [hJ] at HF
    have HS := hide (show (jr (judge opM p s) p).st ≠ 2 by
      rw [← hJ]
      unfold jr
      split
      · rename_i q
        unfold jFst at q ⊢
        split
        · rename_i q2; rw [q2] at q; simp at q
        · rename_i q2
          rw [q2] at q
          split
          · simp
          · rename_i q3; simp [q3] at q
      · omega)
    rw [h0] at c0
    clear HJ hJ h hE h0 hb
    generalize judge opM p s = J at *
    generalize cutr s = C at *
    generalize ret s = R at *
    go_enter Tryz.func100, Tryz.ntmps100
    go_wp2_with fail
    refine (unhide HC).mono ?_
    rintro e w1 ⟨rfl, hw⟩
    rw [hw]
    clear hw w1 HC
    go_wp2_with fail
    refine (unhide HF).mono ?_
    rintro e w1 ⟨rfl, hp1, ho1⟩
    have HP1 := hide hp1
    have HO1 := hide (ho1.mono (Q := OP P hv) (fun _ _ q => .inl q))
    clear hp1 ho1
    go_wp2
    go_ret
    exact ⟨rfl, ⟨⟨nx, hv, unhide HP1, fun _ q => .inl q, fun _ => rfl, fun q => absurd q (unhide HS)⟩, unhide HO1⟩⟩
  · have h1 : p.st = 1 := by omega
    rw [h1] at c0
    by_cases he : (ret s && cutr s == []) = true
    · have hJ : judge opM p s = (jEnd p, 0) := by rw [unhide HJ, if_neg h0, if_pos he]
      have HF := hide (enterBody_any h h1 hb hlen)
      simp only [Bool.and_eq_true, beq_iff_eq] at he
      rw [hJ]
      rw [he.1, he.2] at HC
      clear HJ hJ h hE h0 hb he
      go_enter Tryz.func100, Tryz.ntmps100
      go_wp2_with fail
      refine (unhide HC).mono ?_
      rintro e w1 ⟨rfl, hw⟩
      rw [hw]
      clear hw w1 HC
      go_wp2_with fail
      refine (unhide HF).mono ?_
      rintro e w1 ⟨rfl, hp1⟩
      have HP1 := hide hp1
      clear hp1
      go_wp2
      go_ret
      obtain ⟨⟨nx', a1, a2, a3⟩, a4⟩ := unhide HP1
      exact ⟨rfl, ⟨⟨nx', hv, a1, fun _ q => .inl q, a2, a3⟩, a4.mono (fun _ _ q => .inl q)⟩⟩
    · have hJ : jHdr p (cutr s) (ret s) = judge opM p s := by rw [unhide HJ, if_neg h0, if_neg he]
      have HF := hide (judgeHeader_any h hE (cutr s) (ret s) (by omega) hh)
      rw [hJ] at HF
      have HS := hide (show (jr (judge opM p s) p).st ≠ 2 by
        rw [← hJ]
        unfold jr
        split
        · rename_i q; rw [(jHdr_rd p _ _ q).2.1]; omega
        · omega)
      have hee : (ret s && cutr s == []) = false := by simpa using he
      clear HJ hJ h hE h0 hb he
      generalize judge opM p s = J at *
      generalize hC : cutr s = C at *
      generalize ret s = R at *
      clear hC
      cases R
      · go_enter Tryz.func100, Tryz.ntmps100
        go_wp2_with fail
        refine (unhide HC).mono ?_
        rintro e w1 ⟨rfl, hw⟩
        rw [hw]
        clear hw w1 HC
        go_wp2_with fail
        refine (unhide HF).mono ?_
        rintro e w1 ⟨rfl, hp1⟩
        have HP1 := hide hp1
        clear hp1
        go_wp2
        go_ret
        obtain ⟨⟨hv', a1, a2⟩, a4⟩ := unhide HP1
        exact ⟨rfl, ⟨⟨nx, hv', a1, a2, fun _ => rfl, fun q => absurd q (unhide HS)⟩, a4⟩⟩
      · have hC2 : (C == []) = false := by simpa using hee
        go_enter Tryz.func100, Tryz.ntmps100
        go_wp2_with fail
        refine (unhide HC).mono ?_
        rintro e w1 ⟨rfl, hw⟩
        rw [hw]
        clear hw w1 HC
        go_wp2_with fail
        refine (unhide HF).mono ?_
        rintro e w1 ⟨rfl, hp1⟩
        have HP1 := hide hp1
        clear hp1
        go_wp2
        go_ret
        obtain ⟨⟨hv', a1, a2⟩, a4⟩ := unhide HP1
        exact ⟨rfl, ⟨⟨nx, hv', a1, a2, fun _ => rfl, fun q => absurd q (unhide HS)⟩, a4⟩⟩
end Go.Proofs.YthlacailhfhjnaaGreatDoor
namespace Go.Proofs.YthlacailhfhjnaaGreatDoor
open Go.RowKit Go.Lib
/-- What a parser that reads lines keeps to. -/
def OkL (p : Ps) : Prop := p.st ≤ 1 ∧ p.bd = [] ∧ p.len ≤ 4000 ∧ p.hs.length ≤ 32 ∧ p.ln.length ≤ 1001
def OLn (P : Nat) (hv : Value) (L : Nat) (v : Value) : Nat → Prop := fun k => OP P hv k ∨ k = L ∨ v.ownBlock = some k
/-- What a byte of a line leaves. -/
structure Lin (op P : Nat) (r : Ps × Nat) (nx hv : Value) (L Q Z : Nat) (v : Value) (w w' : World) : Prop where
  at_ : ∃ p' nx' hv', PAt op P p' nx' hv' w' ∧ (r.2 = 0 → p' = r.1) ∧ (∀ k, hv'.ownBlock = some k → hv.ownBlock = some k ∨ w.heap.size ≤ k) ∧
    (r.2 = 0 → r.1.st ≤ 1 → nx' = nx ∧ ∃ v', LAt P r.1 L Q Z v' w' ∧ ∀ k, v'.ownBlock = some k → v.ownBlock = some k ∨ w.heap.size ≤ k) ∧
    (r.2 = 0 → r.1.st = 2 → ∃ L' Q' Z' v', nx' = nxt 2 L' Q' Z' ∧ LAt P r.1 L' Q' Z' v' w' ∧ w.heap.size ≤ L' ∧ w.heap.size ≤ Q' ∧ w.heap.size ≤ Z' ∧ ∀ k, v'.ownBlock = some k → w.heap.size ≤ k)
  only : Only (OLn P hv L v) w w'
theorem own_len (p : Option Addr) (n m c d : Nat) : (Value.slice p n c).ownBlock = (Value.slice p m d).ownBlock := by cases p <;> rfl
theorem judge_st (op : Bs → Option Fst) (p : Ps) (e : Bs) (hp : p.st ≤ 1) : ((judge op p e).2 = 0 → (judge op p e).1.st ≤ 3) ∧ ((judge op p e).2 = 0 → (judge op p e).1.ln = p.ln) := by
  constructor
  · intro h
    have := (judge_rd op p e h).2
    omega
  · intro h
    unfold judge at h ⊢
    split
    · rename_i h1
      rw [if_pos h1] at h
      unfold jFst at h ⊢
      split
      · rename_i h2; rw [h2] at h; simp at h
      · rename_i h2
        rw [h2] at h
        split
        · rfl
        · rename_i h3; simp [h3] at h
    · rename_i h1
      rw [if_neg h1] at h
      split
      · unfold jEnd
        split <;> rfl
      · rename_i h2
        rw [if_neg h2] at h
        exact (jHdr_rd p _ _ h).2.2
set_option maxHeartbeats 8000000 in
set_option maxRecDepth 8000 in
theorem linef47_any {B P L Q Z : Nat} {p : Ps} {nx hv v : Value} {w : World} (h : PAt 47 P p nx hv w) (hl : LAt P p L Q Z v w) (hE : Env B w) (hB : B ≤ L) (hok : OkL p) :
    Calls Tryz.prog 99 #[.int .u8 10, ptr L, ptr Q] w fun e w' => e = .returned (.int .i64 (judge opM { p with ln := [] } p.ln).2) ∧ Lin 47 P (judge opM { p with ln := [] } p.ln) nx hv L Q Z v w w' := by
  obtain ⟨hst, hb, hlen, hh, hln⟩ := hok
  obtain ⟨pa, ca, hv0⟩ := owns_form hl.row
  have hcur : cur p = p.ln := by unfold cur; rw [if_pos hst]
  have HT : Hid ((convert 102 9 v).run Tryz.prog w = .ok (S p.ln) w) := hide (by rw [← hcur]; exact Own.text (base := 0) (W0 := w) ⟨World.ownsRowF_of hl.row, Below.refl _ _, Nat.zero_le _⟩)
  have cL : w.cell? ⟨L, 0, none⟩ = some v := cell_of_row w L 0 _ 102 (0, 0) hl.lb
  have cQ : w.cell? ⟨Q, 0, none⟩ = some (ptr P) := cell_of_row w Q 0 _ 80 (0, 0) hl.qb
  have zL : w.frozen? ⟨L, 0, none⟩ = false := frozen_of_row w L 0 _ 102 hl.lb
  have hLQ : L ≠ Q := fun e => by have := hl.lb; rw [e, hl.qb] at this; simp at this
  have hQL : ¬ Q = L := fun e => hLQ e.symm
  have hPL : P ≠ L := fun e => by have := h.blk; rw [e, hl.lb] at this; simp at this
  have hvL := hide (fun (k : Nat) (hk : v.ownBlock = some k) (e : k = L) => (by
    obtain ⟨cs, q⟩ := owns_lt hl.row k hk
    rw [e, hl.lb] at q
    simp at q : False))
  have hhL := hide (fun (k : Nat) (hk : hv.ownBlock = some k) (e : k = L) => (by
    obtain ⟨cs, q⟩ := owns_lt h.hrow k hk
    rw [e, hl.lb] at q
    simp at q : False))
  have hLs := lt_of_row hl.lb
  have hQs := lt_of_row hl.qb
  rw [hcur] at hv0
  subst hv0
  have W1P := hide (show PAt 47 P { p with ln := [] } nx hv (w.setCell ⟨L, 0, none⟩ (.slice pa 0 ca)) from
    (show PAt 47 P { p with ln := [] } nx hv w from ⟨h.blk, h.hrow⟩).keep (Only.setCell w ⟨L, 0, none⟩ _) hPL (fun k hk e => unhide hhL k hk e))
  have W1L := hide (show LAt P { p with ln := [] } L Q Z (.slice pa 0 ca) (w.setCell ⟨L, 0, none⟩ (.slice pa 0 ca)) from by
    refine ⟨?_, ?_, ?_, ?_⟩
    · rw [heap_setCell_same w L 0 _ 102 _ hl.lb]; rfl
    · rw [heap_setCell_other w ⟨L, 0, none⟩ Q _ hQL]; exact hl.qb
    · intro q; simp at q; omega
    · have e : cur { p with ln := [] } = [] := by unfold cur; rw [if_pos hst]
      rw [e]
      refine owns_same (w := w) ⟨rfl, ?_⟩ (fun k hk => heap_setCell_other w ⟨L, 0, none⟩ k _ (fun q => unhide hvL k ((own_len _ _ _ _ _).trans hk) q))
      rcases hl.row.2 with ⟨e1, e2⟩ | ⟨g, cap, cu, e1, e2, e3, e4, e5, e6, e7⟩
      · injection e1 with a1 a2 a3
        left; rw [a1, a3]; exact ⟨rfl, rfl⟩
      · injection e1 with a1 a2 a3
        right; rw [a1]; exact ⟨g, ca, cu, rfl, e2, e3, Nat.zero_le _, by rw [a3]; exact e5, by rw [a3]; exact e6, by simp⟩)
  have W1O := hide ((Only.refl (OLn P hv L (.slice pa p.ln.length ca)) w).put ⟨L, 0, none⟩ (.slice pa 0 ca) (.inl (.inr (.inl rfl))))
  have W1E := hide (hE.below (((Only.setCell w ⟨L, 0, none⟩ (.slice pa 0 ca)).below (Below.refl _ _) hE.le (fun k e => by subst e; exact hB))))
  have HS := hide ((judge_st opM { p with ln := [] } p.ln hst).1)
  have HLN := hide ((judge_st opM { p with ln := [] } p.ln hst).2)
  have HJD := hide (fun (W : World) (h1 : PAt 47 P { p with ln := [] } nx hv W) (h2 : Env B W) => judge47_any h1 h2 p.ln (by omega) hst hb hlen hh)
  have hpa : (0 : Int) ≤ ca := by omega
  generalize judge opM { p with ln := [] } p.ln = J at *
  clear h hl hE hb hlen hh
  go_enter Tryz.func99, Tryz.ntmps99
  go_wp2_with (first | (refine wpList_conv rfl 102 9 (.tmp 8) rfl _ _ (by rfl) (unhide HT) ?_))
  refine (unhide HJD _ (unhide W1P) (unhide W1E)).mono ?_
  rintro e w2 ⟨rfl, hj⟩
  have HJ2 := hide hj
  clear hj
  go_wp2
  go_ret
  refine ⟨rfl, ?_⟩
  obtain ⟨⟨nx', hv', a1, a2, a3, a4⟩, a5⟩ := unhide HJ2
  have hsz : (w.setCell ⟨L, 0, none⟩ (.slice pa 0 ca)).heap.size = w.heap.size := by simp [World.setCell]
  refine ⟨⟨jr J { p with ln := [] }, nx', hv', a1, fun q => by unfold jr; rw [if_pos q], fun k hk => by rw [← hsz]; exact a2 k hk, ?_, ?_⟩, (unhide W1O).trans a5 (fun k _ q => .inl q)⟩
  · intro q1 q2
    have e : jr J { p with ln := [] } = J.1 := by unfold jr; rw [if_pos q1]
    rw [e] at a3
    refine ⟨a3 (by omega), .slice pa 0 ca, ?_, fun k hk => .inl ((own_len _ _ _ _ _).trans hk)⟩
    have hL1 := unhide W1L
    have hc : cur J.1 = [] := by unfold cur; rw [if_pos q2, unhide HLN q1]
    have hP1 := unhide W1P
    have ty : ∀ k cs T, T ≠ 91 → T ≠ 35 → (w.setCell ⟨L, 0, none⟩ (.slice pa 0 ca)).heap[k]? = some (.cells cs T (0, 0)) → ¬ OP P hv k := by
      intro k cs T t1 t2 hk q
      rcases q with q | q
      · rw [q, hP1.blk] at hk; simp at hk; exact t1 hk.2.symm
      · obtain ⟨cs2, q2⟩ := owns_lt hP1.hrow k q
        rw [q2] at hk; simp at hk; exact t2 hk.2.symm
    refine ⟨(a5.block L (lt_of_row hL1.lb) (ty L _ 102 (by decide) (by decide) hL1.lb)).trans hL1.lb, (a5.block Q (lt_of_row hL1.qb) (ty Q _ 80 (by decide) (by decide) hL1.qb)).trans hL1.qb, fun q => by omega, ?_⟩
    rw [hc]
    have hr := hL1.row
    have e2 : cur { p with ln := [] } = [] := by unfold cur; rw [if_pos hst]
    rw [e2] at hr
    refine owns_same hr (fun k hk => ?_)
    obtain ⟨cs, q⟩ := owns_lt hr k hk
    exact a5.block k (lt_of_row q) (ty k cs 5 (by decide) (by decide) q)
  · intro q1 q2
    have e : jr J { p with ln := [] } = J.1 := by unfold jr; rw [if_pos q1]
    rw [e] at a4
    rw [hsz] at a4
    exact a4 q2
end Go.Proofs.YthlacailhfhjnaaGreatDoor
namespace Go.Proofs.YthlacailhfhjnaaGreatDoor
open Go.RowKit Go.Lib
def lrow (p : Ps) (b : UInt8) : Ps × Nat := if 1001 < p.ln.length + 1 then (pov, 53) else ({ p with ln := p.ln ++ [b] }, 0)
set_option maxHeartbeats 8000000 in
set_option maxRecDepth 8000 in
theorem linea_any {op P L Q Z : Nat} {p : Ps} {nx hv v : Value} {w : World} (h : PAt op P p nx hv w) (hl : LAt P p L Q Z v w) (hok : OkL p) (b : UInt8) (hb10 : b ≠ 10) :
    Calls Tryz.prog 99 #[.int .u8 (b.toNat : Int), ptr L, ptr Q] w fun e w' => e = .returned (.int .i64 (lrow p b).2) ∧ Lin op P (lrow p b) nx hv L Q Z v w w' := by
  obtain ⟨hst, hb, hlen, hh, hln⟩ := hok
  obtain ⟨pa, ca, hv0⟩ := owns_form hl.row
  have hcur : cur p = p.ln := by unfold cur; rw [if_pos hst]
  have cL : w.cell? ⟨L, 0, none⟩ = some v := cell_of_row w L 0 _ 102 (0, 0) hl.lb
  have i10 : ¬ (b.toNat : Int) = 10 := toNat_ne hb10
  rw [hcur] at hv0
  subst hv0
  have hLs := lt_of_row hl.lb
  have HR := hide (by have := hl.row; rw [hcur] at this; exact this)
  have HNL : ¬ (Value.slice pa p.ln.length ca).ownBlock = some L := fun e => by
    obtain ⟨cs, q⟩ := owns_lt hl.row L e
    rw [hl.lb] at q
    simp at q
  have HLB := hide hl.lb
  have H := hide h
  have HL := hide hl
  have HRL : Hid (lrow p b = if 1001 < p.ln.length + 1 then (pov, 53) else ({ p with ln := p.ln ++ [b] }, 0)) := hide rfl
  generalize lrow p b = J at *
  clear h hl hb hlen hh
  have fin : ∀ (pb : Option Addr) (cb : Nat) (W5 : World), W5.ownsRow 0 5 1 (.slice pb (p.ln.length + 1) cb) (p.ln.length + 1) (p.ln.map B ++ [.int .u8 (b.toNat : Int)]) → Only (fun k => (Value.slice pa p.ln.length ca).ownBlock = some k) w W5 → (∀ k, (Value.slice pb (p.ln.length + 1) cb).ownBlock = some k → (Value.slice pa p.ln.length ca).ownBlock = some k ∨ w.heap.size ≤ k) → Lin op P J nx hv L Q Z (.slice pa p.ln.length ca) w (W5.setCell ⟨L, 0, none⟩ (.slice pb (p.ln.length + 1) cb)) := by
    intro pb cb W5 ho5 hw5 hn5
    have hP := unhide H
    have hL := unhide HL
    have ty : ∀ k cs T, T ≠ 5 → w.heap[k]? = some (.cells cs T (0, 0)) → ¬ (Value.slice pa p.ln.length ca).ownBlock = some k := by
      intro k cs T t1 hk q
      obtain ⟨cs2, q2⟩ := owns_lt hL.row k q
      rw [q2] at hk; simp at hk; exact t1 hk.2.symm
    have hP5 : PAt op P p nx hv W5 := hP.keep hw5 (ty P _ 91 (by decide) hP.blk) (fun k hk => by
      obtain ⟨cs, q⟩ := owns_lt hP.hrow k hk
      exact ty k cs 35 (by decide) q)
    have lb5 : W5.heap[L]? = _ := (hw5.block L (lt_of_row hL.lb) (ty L _ 102 (by decide) hL.lb)).trans hL.lb
    have qb5 : W5.heap[Q]? = _ := (hw5.block Q (lt_of_row hL.qb) (ty Q _ 80 (by decide) hL.qb)).trans hL.qb
    have hQL : ¬ Q = L := fun e => by rw [e, lb5] at qb5; simp at qb5
    have hPL : P ≠ L := fun e => by have := hP5.blk; rw [e, lb5] at this; simp at this
    have hP6 : PAt op P p nx hv (W5.setCell ⟨L, 0, none⟩ (.slice pb (p.ln.length + 1) cb)) := hP5.keep (Only.setCell W5 ⟨L, 0, none⟩ _) hPL (fun k hk e => by
      obtain ⟨cs, q⟩ := owns_lt hP5.hrow k hk
      rw [e, lb5] at q
      simp at q)
    refine ⟨⟨{ p with ln := p.ln ++ [b] }, nx, hv, ⟨hP6.blk, hP6.hrow⟩, ?_, fun _ q => .inl q, ?_, ?_⟩, ?_⟩
    · intro q
      rw [unhide HRL] at q ⊢
      split
      · rename_i q2; rw [if_pos q2] at q; simp at q
      · rfl
    · intro q1 _
      have e : J.1 = { p with ln := p.ln ++ [b] } := by
        rw [unhide HRL] at q1 ⊢
        split
        · rename_i q2; rw [if_pos q2] at q1; simp at q1
        · rfl
      refine ⟨rfl, .slice pb (p.ln.length + 1) cb, ?_, hn5⟩
      rw [e]
      refine ⟨?_, ?_, fun q => by simp at q; omega, ?_⟩
      · rw [heap_setCell_same W5 L 0 _ 102 _ lb5]; rfl
      · rw [heap_setCell_other W5 ⟨L, 0, none⟩ Q _ hQL]; exact qb5
      · have e3 : cur { p with ln := p.ln ++ [b] } = p.ln ++ [b] := by unfold cur; rw [if_pos hst]
        rw [e3, List.length_append, List.map_append]
        exact owns_same ho5 (fun k hk => heap_setCell_other W5 ⟨L, 0, none⟩ k _ (fun q => by
          obtain ⟨cs, q2⟩ := owns_lt ho5 k hk
          simp only at q
          rw [q, lb5] at q2
          simp at q2))
    · intro q1 q2
      rw [unhide HRL] at q1 q2
      split at q2
      · rename_i q3; rw [if_pos q3] at q1; simp at q1
      · simp at q2; omega
    · exact ((hw5.mono (fun k _ q => .inr (.inr q))).put ⟨L, 0, none⟩ _ (.inl (.inr (.inl rfl))))
  have FIN := hide fin
  clear fin
  by_cases hc : 1001 < p.ln.length + 1
  · have hJ : J.2 = 53 := by rw [unhide HRL, if_pos hc]
    rw [hJ]
    have ic : (1001 : Int) < (p.ln.length : Int) + 1 := by omega
    clear hJ hc HRL
    go_enter Tryz.func99, Tryz.ntmps99
    go_wp2_with (first | (at_builtin; refine push_own 102 5 _ 1 1 Tryz.underlying102 info5 rfl (by decide) rfl (.tmp 15) (.tmp 17) rfl (.slice pa p.ln.length ca) p.ln.length (p.ln.map B) (by rfl) w (unhide HR) [.int .u8 (b.toNat : Int)] (by rfl) (by intro u hu; simp at hu; rcases hu with rfl; rfl) (by rfl) (by omega) (by omega) ?_; intro pb cb W5 ho5 hw5 hn5; have hb5 := (hw5.block L hLs HNL).trans (unhide HLB); have c5 := (cell_of_row W5 L 0 _ 102 (0, 0) hb5); have z5 := (frozen_of_row W5 L 0 _ 102 hb5); have e5 : W5.cell? ⟨L, 0, none⟩ = some (.slice pa p.ln.length ca) := c5; have l5 := lt_of_row hb5; clear c5))
    go_ret
    exact ⟨rfl, unhide FIN pb cb W5 ho5 hw5 hn5⟩
  · have hJ : J.2 = 0 := by rw [unhide HRL, if_neg hc]
    rw [hJ]
    have ic : ¬ (1001 : Int) < (p.ln.length : Int) + 1 := by omega
    clear hJ hc HRL
    go_enter Tryz.func99, Tryz.ntmps99
    go_wp2_with (first | (at_builtin; refine push_own 102 5 _ 1 1 Tryz.underlying102 info5 rfl (by decide) rfl (.tmp 15) (.tmp 17) rfl (.slice pa p.ln.length ca) p.ln.length (p.ln.map B) (by rfl) w (unhide HR) [.int .u8 (b.toNat : Int)] (by rfl) (by intro u hu; simp at hu; rcases hu with rfl; rfl) (by rfl) (by omega) (by omega) ?_; intro pb cb W5 ho5 hw5 hn5; have hb5 := (hw5.block L hLs HNL).trans (unhide HLB); have c5 := (cell_of_row W5 L 0 _ 102 (0, 0) hb5); have z5 := (frozen_of_row W5 L 0 _ 102 hb5); have e5 : W5.cell? ⟨L, 0, none⟩ = some (.slice pa p.ln.length ca) := c5; have l5 := lt_of_row hb5; clear c5))
    go_ret
    exact ⟨rfl, unhide FIN pb cb W5 ho5 hw5 hn5⟩
end Go.Proofs.YthlacailhfhjnaaGreatDoor
namespace Go.Proofs.YthlacailhfhjnaaGreatDoor
open Go.RowKit Go.Lib
def brow (p : Ps) (b : UInt8) : Ps × Nat := if ((p.bd ++ [b]).length : Int) = p.len then ({ p with st := 3, bd := p.bd ++ [b] }, 0) else ({ p with bd := p.bd ++ [b] }, 0)
structure Bod (op P : Nat) (r : Ps × Nat) (nx hv : Value) (L Q Z : Nat) (v : Value) (w w' : World) : Prop where
  at_ : PAt op P r.1 nx hv w'
  lat : r.1.st = 2 → ∃ v', LAt P r.1 L Q Z v' w' ∧ ∀ k, v'.ownBlock = some k → v.ownBlock = some k ∨ w.heap.size ≤ k
  only : Only (OLn P hv L v) w w'
set_option maxHeartbeats 8000000 in
set_option maxRecDepth 8000 in
theorem bodya_any {op P L Q Z : Nat} {p : Ps} {nx hv v : Value} {w : World} (h : PAt op P p nx hv w) (hl : LAt P p L Q Z v w) (hst : p.st = 2) (hbl : (p.bd.length : Int) < p.len) (hlen : p.len ≤ 4000) (b : UInt8) :
    Calls Tryz.prog 148 #[.int .u8 (b.toNat : Int), ptr L, ptr Z, ptr Q] w fun e w' => e = .returned (.int .i64 (brow p b).2) ∧ Bod op P (brow p b) nx hv L Q Z v w w' := by
  obtain ⟨pa, ca, hv0⟩ := owns_form hl.row
  have hcur : cur p = p.bd := by unfold cur; rw [if_neg (by omega)]
  have cL : w.cell? ⟨L, 0, none⟩ = some v := cell_of_row w L 0 _ 102 (0, 0) hl.lb
  rw [hcur] at hv0
  subst hv0
  have HZB := hide (hl.zb hst)
  have hLs := lt_of_row hl.lb
  have hQs := lt_of_row hl.qb
  have hZs := lt_of_row (hl.zb hst)
  have hPs := h.lt
  have HR := hide (by have := hl.row; rw [hcur] at this; exact this)
  have ty : ∀ k cs T, T ≠ 5 → w.heap[k]? = some (.cells cs T (0, 0)) → ¬ (Value.slice pa p.bd.length ca).ownBlock = some k := by
    intro k cs T t1 hk q
    obtain ⟨cs2, q2⟩ := owns_lt hl.row k q
    rw [q2] at hk; simp at hk; exact t1 hk.2.symm
  have HNL := ty L _ 102 (by decide) hl.lb
  have HNQ := ty Q _ 80 (by decide) hl.qb
  have HNZ := ty Z _ 3 (by decide) (hl.zb hst)
  have HNP := ty P _ 91 (by decide) h.blk
  have HLB := hide hl.lb
  have HQB := hide hl.qb
  have HPB := hide h.blk
  have H := hide h
  have HL := hide hl
  have HTY := hide ty
  have HRL : Hid (brow p b = if ((p.bd ++ [b]).length : Int) = p.len then ({ p with st := 3, bd := p.bd ++ [b] }, 0) else ({ p with bd := p.bd ++ [b] }, 0)) := hide rfl
  have h4 : p.bd.length ≤ 4000 := by omega
  generalize brow p b = J at *
  clear h hl ty
  have HST := hide hst
  by_cases hc : (p.bd.length : Int) + 1 = p.len
  · have hJ : J = ({ p with st := 3, bd := p.bd ++ [b] }, 0) := by rw [unhide HRL, if_pos (by simp; omega)]
    have HJ := hide hJ
    clear hJ HRL hst
    have HC := hide hc
    clear hbl
    have hlPL : ∀ j, (⟨P, j, none⟩ : Addr) ≠ ⟨L, 0, none⟩ := fun j e => by
      have : P = L := by injection e
      have q := unhide HPB
      rw [this, unhide HLB] at q
      simp at q
    have e1 : P ≠ L := fun e => hlPL 0 (by rw [e])
    have e2 : Q ≠ L := fun e => by have q := unhide HQB; rw [e, unhide HLB] at q; simp at q
    have e3 : Z ≠ L := fun e => by have q := unhide HZB; rw [e, unhide HLB] at q; simp at q
    go_enter Tryz.func148, Tryz.ntmps148
    go_wp2_with (first | (at_builtin; refine push_own 102 5 _ 1 1 Tryz.underlying102 info5 rfl (by decide) rfl (.tmp 6) (.tmp 8) rfl (.slice pa p.bd.length ca) p.bd.length (p.bd.map B) (by rfl) w (unhide HR) [.int .u8 (b.toNat : Int)] (by rfl) (by intro u hu; simp at hu; rcases hu with rfl; rfl) (by rfl) (by omega) (by omega) ?_; intro pb cb W5 ho5 hw5 hn5; have hb5 := (hw5.block L hLs HNL).trans (unhide HLB); have c5 := (cell_of_row W5 L 0 _ 102 (0, 0) hb5); have z5 := (frozen_of_row W5 L 0 _ 102 hb5); have e5 : W5.cell? ⟨L, 0, none⟩ = some (.slice pa p.bd.length ca) := c5; have l5 := lt_of_row hb5; have zb5 := (hw5.block Z hZs HNZ).trans (unhide HZB); have f5 : W5.cell? ⟨Z, 0, none⟩ = some (.int .i64 p.len) := cell_of_row W5 Z 0 _ 3 (0, 0) zb5; have k5 := lt_of_row zb5; have qb5 := (hw5.block Q hQs HNQ).trans (unhide HQB); have g5 : W5.cell? ⟨Q, 0, none⟩ = some (ptr P) := cell_of_row W5 Q 0 _ 80 (0, 0) qb5; have m5 := lt_of_row qb5; have pb5 := (hw5.block P hPs HNP).trans (unhide HPB); have p50 : W5.cell? ⟨P, 0, none⟩ = some (.int .i64 p.st) := cell_of_row W5 P 0 _ 91 (0, 0) pb5; have p59 : W5.cell? ⟨P, 9, none⟩ = some (S (bdv p)) := cell_of_row W5 P 9 _ 91 (0, 0) pb5; have pz : ∀ j, W5.frozen? ⟨P, j, none⟩ = false := fun j => frozen_of_row W5 P j _ 91 pb5; have n5 := lt_of_row pb5; clear c5))
    have hPL := e1
    have W6P := hide (show W5.heap[P]? = some (.cells (cellsP op p nx hv) 91 (0, 0)) from pb5)
    have HO6 := hide (show (W5.setCell ⟨L, 0, none⟩ (.slice pb (p.bd.length + 1) cb)).ownsRow 0 5 1 (.slice pb (p.bd ++ [b]).length cb) (p.bd ++ [b]).length ((p.bd ++ [b]).map B) from by
      rw [List.length_append, List.map_append]
      exact owns_same ho5 (fun k hk => heap_setCell_other W5 ⟨L, 0, none⟩ k _ (fun q => by
          obtain ⟨cs, q2⟩ := owns_lt ho5 k hk
          simp only at q
          rw [q, hb5] at q2
          simp at q2)))
    have HCV : ((convert 102 9 (.slice pb (p.bd.length + 1) cb)).run Tryz.prog (W5.setCell ⟨L, 0, none⟩ (.slice pb (p.bd.length + 1) cb)).drew = .ok (S (p.bd ++ [b])) (W5.setCell ⟨L, 0, none⟩ (.slice pb (p.bd.length + 1) cb)).drew) := by
      have q := Own.text (base := 0) (v := .slice pb (p.bd ++ [b]).length cb) (X := p.bd ++ [b]) (W0 := (W5.setCell ⟨L, 0, none⟩ (.slice pb (p.bd.length + 1) cb)).drew) (w := (W5.setCell ⟨L, 0, none⟩ (.slice pb (p.bd.length + 1) cb)).drew) ⟨World.ownsRowF_of (owns_same (unhide HO6) (fun k hk => rfl)), Below.refl _ _, Nat.zero_le _⟩
      simpa using q
    have c6L : (W5.setCell ⟨L, 0, none⟩ (.slice pb (p.bd.length + 1) cb)).cell? ⟨L, 0, none⟩ = some (.slice pb (p.bd.length + 1) cb) := by
      rw [cell_of_row _ L 0 _ 102 (0, 0) (heap_setCell_same W5 L 0 _ 102 _ hb5)]; rfl
    have W6P2 := (heap_setCell_other W5 ⟨L, 0, none⟩ P (.slice pb (p.bd.length + 1) cb) hPL).trans pb5
    have W6Q2 := (heap_setCell_other W5 ⟨L, 0, none⟩ Q (.slice pb (p.bd.length + 1) cb) e2).trans qb5
    have c6Q : (W5.setCell ⟨L, 0, none⟩ (.slice pb (p.bd.length + 1) cb)).cell? ⟨Q, 0, none⟩ = some (ptr P) := cell_of_row _ Q 0 _ 80 (0, 0) W6Q2
    have c60 : (W5.setCell ⟨L, 0, none⟩ (.slice pb (p.bd.length + 1) cb)).cell? ⟨P, 0, none⟩ = some (.int .i64 p.st) := cell_of_row _ P 0 _ 91 (0, 0) W6P2
    have c69 : (W5.setCell ⟨L, 0, none⟩ (.slice pb (p.bd.length + 1) cb)).cell? ⟨P, 9, none⟩ = some (S (bdv p)) := cell_of_row _ P 9 _ 91 (0, 0) W6P2
    have z6 : ∀ j, (W5.setCell ⟨L, 0, none⟩ (.slice pb (p.bd.length + 1) cb)).frozen? ⟨P, j, none⟩ = false := fun j => frozen_of_row _ P j _ 91 W6P2
    have HO7 := hide ((hw5.mono (Q := OLn P hv L (.slice pa p.bd.length ca)) (fun k _ q => .inr (.inr q))).put ⟨L, 0, none⟩ (.slice pb (p.bd.length + 1) cb) (.inl (.inr (.inl rfl))))
    have HP7 := hide (show PAt op P p nx hv (W5.setCell ⟨L, 0, none⟩ (.slice pb (p.bd.length + 1) cb)) from ⟨W6P2, by
      have hP5 := (unhide H).keep hw5 HNP (fun k hk => by
        obtain ⟨cs, q⟩ := owns_lt (unhide H).hrow k hk
        exact unhide HTY k cs 35 (by decide) q)
      exact owns_same hP5.hrow (fun k hk => heap_setCell_other W5 ⟨L, 0, none⟩ k _ (fun q => by
          obtain ⟨cs, q2⟩ := owns_lt hP5.hrow k hk
          simp only at q
          rw [q, hb5] at q2
          simp at q2))⟩)
    have hPQ : P ≠ Q := fun e => by have q := W6P2; rw [e, W6Q2] at q; simp at q
    have hQP : ¬ Q = P := fun e => hPQ e.symm
    clear pb5 qb5 zb5 hb5 W6P W6P2 W6Q2 ho5 hw5 hn5 e5 z5 f5 g5 p50 p59 pz l5 k5 m5 n5 HO6
    generalize W5.setCell ⟨L, 0, none⟩ (.slice pb (p.bd.length + 1) cb) = W6 at *
    go_region
    all_goals go_wp2
    all_goals go_ret
    all_goals (
      rw [unhide HJ]
      refine ⟨rfl, ⟨⟨?_, ?_⟩, fun q => by simp at q, ?_⟩⟩
      · have q1 := heap_setCell_same W6 P 9 _ 91 (S (p.bd ++ [b])) (unhide HP7).blk
        have q2 := heap_setCell_same _ P 0 _ 91 (.int .i64 3) q1
        refine Eq.trans q2 ?_
        simp [cellsP, bdv]
      · refine owns_same (unhide HP7).hrow (fun k hk => ?_)
        have hk2 : k ≠ P := fun e => (unhide HP7).ne (by rw [hk, e])
        exact (heap_setCell_other _ ⟨P, 0, none⟩ k _ hk2).trans (heap_setCell_other W6 ⟨P, 9, none⟩ k _ hk2)
      · exact (((unhide HO7).put ⟨P, 9, none⟩ _ (.inl (.inl (.inl rfl)))).put ⟨P, 0, none⟩ _ (.inl (.inl (.inl rfl)))).trans (Only.drew _ _) (fun _ _ q => q))
  · have hJ : J = ({ p with bd := p.bd ++ [b] }, 0) := by rw [unhide HRL, if_neg (by simp; omega)]
    have HJ := hide hJ
    clear hJ HRL hst
    have e1 : P ≠ L := fun e => by have q := unhide HPB; rw [e, unhide HLB] at q; simp at q
    have e2 : Q ≠ L := fun e => by have q := unhide HQB; rw [e, unhide HLB] at q; simp at q
    have e3 : Z ≠ L := fun e => by have q := unhide HZB; rw [e, unhide HLB] at q; simp at q
    go_enter Tryz.func148, Tryz.ntmps148
    go_wp2_with (first | (at_builtin; refine push_own 102 5 _ 1 1 Tryz.underlying102 info5 rfl (by decide) rfl (.tmp 6) (.tmp 8) rfl (.slice pa p.bd.length ca) p.bd.length (p.bd.map B) (by rfl) w (unhide HR) [.int .u8 (b.toNat : Int)] (by rfl) (by intro u hu; simp at hu; rcases hu with rfl; rfl) (by rfl) (by omega) (by omega) ?_; intro pb cb W5 ho5 hw5 hn5; have hb5 := (hw5.block L hLs HNL).trans (unhide HLB); have c5 := (cell_of_row W5 L 0 _ 102 (0, 0) hb5); have z5 := (frozen_of_row W5 L 0 _ 102 hb5); have e5 : W5.cell? ⟨L, 0, none⟩ = some (.slice pa p.bd.length ca) := c5; have l5 := lt_of_row hb5; have zb5 := (hw5.block Z hZs HNZ).trans (unhide HZB); have f5 : W5.cell? ⟨Z, 0, none⟩ = some (.int .i64 p.len) := cell_of_row W5 Z 0 _ 3 (0, 0) zb5; have k5 := lt_of_row zb5; have qb5 := (hw5.block Q hQs HNQ).trans (unhide HQB); have g5 : W5.cell? ⟨Q, 0, none⟩ = some (ptr P) := cell_of_row W5 Q 0 _ 80 (0, 0) qb5; have m5 := lt_of_row qb5; have pb5 := (hw5.block P hPs HNP).trans (unhide HPB); have p50 : W5.cell? ⟨P, 0, none⟩ = some (.int .i64 p.st) := cell_of_row W5 P 0 _ 91 (0, 0) pb5; have p59 : W5.cell? ⟨P, 9, none⟩ = some (S (bdv p)) := cell_of_row W5 P 9 _ 91 (0, 0) pb5; have pz : ∀ j, W5.frozen? ⟨P, j, none⟩ = false := fun j => frozen_of_row W5 P j _ 91 pb5; have n5 := lt_of_row pb5; clear c5))
    go_ret
    rw [unhide HJ]
    have hP5 := (unhide H).keep hw5 HNP (fun k hk => by
        obtain ⟨cs, q⟩ := owns_lt (unhide H).hrow k hk
        exact unhide HTY k cs 35 (by decide) q)
    refine ⟨rfl, ⟨⟨?_, ?_⟩, fun q => ⟨.slice pb (p.bd.length + 1) cb, ⟨?_, ?_, fun _ => ?_, ?_⟩, hn5⟩, (hw5.mono (Q := OLn P hv L (.slice pa p.bd.length ca)) (fun k _ q => .inr (.inr q))).put ⟨L, 0, none⟩ (.slice pb (p.bd.length + 1) cb) (.inl (.inr (.inl rfl)))⟩⟩
    · rw [heap_setCell_other W5 ⟨L, 0, none⟩ P _ e1, pb5]
      simp [cellsP, bdv, unhide HST]
    · exact owns_same hP5.hrow (fun k hk => heap_setCell_other W5 ⟨L, 0, none⟩ k _ (fun q => by
          obtain ⟨cs, q2⟩ := owns_lt hP5.hrow k hk
          simp only at q
          rw [q, hb5] at q2
          simp at q2))
    · rw [heap_setCell_same W5 L 0 _ 102 _ hb5]; rfl
    · rw [heap_setCell_other W5 ⟨L, 0, none⟩ Q _ e2]; exact qb5
    · rw [heap_setCell_other W5 ⟨L, 0, none⟩ Z _ e3]; exact zb5
    · have e4 : cur { p with bd := p.bd ++ [b] } = p.bd ++ [b] := by unfold cur; rw [if_neg (by show ¬ p.st ≤ 1; have := unhide HST; omega)]
      rw [e4, List.length_append, List.map_append]
      exact owns_same ho5 (fun k hk => heap_setCell_other W5 ⟨L, 0, none⟩ k _ (fun q => by
          obtain ⟨cs, q2⟩ := owns_lt ho5 k hk
          simp only at q
          rw [q, hb5] at q2
          simp at q2))
end Go.Proofs.YthlacailhfhjnaaGreatDoor
namespace Go.Proofs.YthlacailhfhjnaaGreatDoor
open Go.RowKit Go.Lib
/-- What a parser under way keeps to. -/
def OkP (p : Ps) : Prop := p.st ≤ 2 ∧ p.len ≤ 4000 ∧ p.hs.length ≤ 32 ∧ p.ln.length ≤ 1001 ∧ (p.st ≤ 1 → p.bd = []) ∧ (p.st = 2 → (p.bd.length : Int) < p.len)
theorem okP0 : OkP p0 := ⟨by decide, by decide, by decide, by decide, fun _ => rfl, fun h => by simp [p0] at h⟩
theorem jLen_ok (p : Ps) (v : Bs) (h : (jLen p v).2 = 0) : (jLen p v).1.len ≤ 4000 ∧ (jLen p v).1.hs = p.hs ∧ (jLen p v).1.bd = p.bd := by
  unfold jLen at h ⊢
  split
  · rename_i h1; rw [if_pos h1] at h; simp at h
  · split
    · rename_i h1 h2; rw [if_neg h1, if_pos h2] at h; simp at h
    · rename_i h2; exact ⟨by simp; omega, rfl, rfl⟩
theorem judge_ok (op : Bs → Option Fst) (p : Ps) (e : Bs) (h : (judge op p e).2 = 0) (hp : OkP p) (hst : p.st ≤ 1) (h3 : (judge op p e).1.st ≠ 3) : OkP (judge op p e).1 := by
  obtain ⟨a1, a2, a3, a4, a5, a6⟩ := hp
  have hln := (judge_st op p e hst).2 h
  unfold judge at h h3 hln ⊢
  split
  · rename_i h1
    rw [if_pos h1] at h h3 hln
    unfold jFst at h h3 hln ⊢
    split
    · rename_i h2; rw [h2] at h; simp at h
    · rename_i h2
      rw [h2] at h
      split
      · exact ⟨by simp, a2, a3, a4, fun _ => a5 hst, fun q => by simp at q⟩
      · rename_i h4; simp [h4] at h
  · rename_i h1
    rw [if_neg h1] at h h3 hln
    split
    · rename_i h2
      rw [if_pos h2] at h3
      unfold jEnd at h3 ⊢
      split
      · rename_i h4; rw [if_pos h4] at h3; simp at h3
      · rename_i h4
        exact ⟨by simp, a2, a3, a4, fun q => by simp at q, fun _ => by simp only [a5 hst]; simp; omega⟩
    · rename_i h2
      rw [if_neg h2] at h h3 hln
      have hr := jHdr_rd p _ _ h
      unfold jHdr at h h3 hln hr ⊢
      split
      · rename_i h4; rw [if_pos h4] at h; simp at h
      · rename_i h4
        rw [if_neg h4] at h h3 hln hr
        split
        · rename_i h5
          rw [if_pos h5] at h h3 hln hr
          have hj := jLen_ok p _ h
          exact ⟨by rw [hr.2.1]; omega, hj.1, by rw [hj.2.1]; exact a3, by rw [hln]; exact a4, fun _ => by rw [hj.2.2]; exact a5 hst, fun q => by rw [hr.2.1] at q; omega⟩
        · rename_i h5
          rw [if_neg h5] at h
          split
          · rename_i h6; rw [if_pos h6] at h; simp at h
          · rename_i h6
            exact ⟨a1, a2, by simp; omega, a4, a5, a6⟩
theorem step_ok (op : Bs → Option Fst) (p : Ps) (b : UInt8) (hp : OkP p) (h : (step op p b).2 = 0) (h3 : (step op p b).1.st ≠ 3) : OkP (step op p b).1 := by
  obtain ⟨a1, a2, a3, a4, a5, a6⟩ := hp
  unfold step at h h3 ⊢
  split
  · rename_i h1
    rw [if_pos h1] at h h3
    split
    · rename_i h2
      rw [if_pos h2] at h h3
      exact judge_ok op _ _ h ⟨a1, a2, a3, by simp, a5, a6⟩ h1 h3
    · rename_i h2
      rw [if_neg h2] at h
      split
      · rename_i h4; rw [if_pos h4] at h; simp at h
      · rename_i h4
        exact ⟨a1, a2, a3, by simp; omega, a5, a6⟩
  · rename_i h1
    rw [if_neg h1] at h3
    split
    · rename_i h2; rw [if_pos h2] at h3; simp at h3
    · rename_i h2
      refine ⟨a1, a2, a3, a4, fun q => absurd q h1, fun q => ?_⟩
      have := a6 q
      simp at h2 ⊢
      omega
/-- A parser in memory, with the blocks that are its own. -/
structure Par (op P : Nat) (p : Ps) (O : Nat → Prop) (w : World) : Prop where
  ex : ∃ nx hv, PAt op P p nx hv w ∧ (∀ k, hv.ownBlock = some k → O k) ∧ (p.st ≤ 2 → ∃ L Q Z v, nx = nxt p.st L Q Z ∧ LAt P p L Q Z v w ∧ O L ∧ O Q ∧ (p.st = 2 → O Z) ∧ ∀ k, v.ownBlock = some k → O k)
  inP : O P
  lt : ∀ k, O k → k < w.heap.size
def fpr (P : Nat) (st L Q Z : Nat) (v hv : Value) : Nat → Prop := fun k => k = P ∨ hv.ownBlock = some k ∨ (st ≤ 2 ∧ (k = L ∨ k = Q ∨ v.ownBlock = some k)) ∨ (st = 2 ∧ k = Z)
theorem Par.make {op P L Q Z : Nat} {p : Ps} {nx hv v : Value} {w : World} (h : PAt op P p nx hv w) (hl : p.st ≤ 2 → nx = nxt p.st L Q Z ∧ LAt P p L Q Z v w) : Par op P p (fpr P p.st L Q Z v hv) w := by
  refine ⟨⟨nx, hv, h, fun k hk => .inr (.inl hk), fun q => ⟨L, Q, Z, v, (hl q).1, (hl q).2, .inr (.inr (.inl ⟨q, .inl rfl⟩)), .inr (.inr (.inl ⟨q, .inr (.inl rfl)⟩)), fun q2 => .inr (.inr (.inr ⟨q2, rfl⟩)), fun k hk => .inr (.inr (.inl ⟨q, .inr (.inr hk)⟩))⟩⟩, .inl rfl, ?_⟩
  intro k hk
  rcases hk with rfl | hk | ⟨q, rfl | rfl | hk⟩ | ⟨q, rfl⟩
  · exact h.lt
  · obtain ⟨cs, q⟩ := owns_lt h.hrow k hk
    exact lt_of_row q
  · exact lt_of_row (hl q).2.lb
  · exact lt_of_row (hl q).2.qb
  · obtain ⟨cs, q2⟩ := owns_lt (hl q).2.row k hk
    exact lt_of_row q2
  · exact lt_of_row ((hl (by omega)).2.zb q)
theorem Par.keep {op P : Nat} {p : Ps} {O X : Nat → Prop} {w w' : World} (h : Par op P p O w) (ho : Only X w w') (hx : ∀ k, O k → ¬ X k) : Par op P p O w' := by
  obtain ⟨⟨nx, hv, h1, h2, h3⟩, h4, h5⟩ := h
  refine ⟨⟨nx, hv, h1.keep ho (hx P h4) (fun k hk => hx k (h2 k hk)), h2, fun q => ?_⟩, h4, fun k hk => Nat.lt_of_lt_of_le (h5 k hk) ho.size⟩
  obtain ⟨L, Q, Z, v, e, g, o1, o2, o3, o4⟩ := h3 q
  refine ⟨L, Q, Z, v, e, ⟨(ho.block L (lt_of_row g.lb) (hx L o1)).trans g.lb, (ho.block Q (lt_of_row g.qb) (hx Q o2)).trans g.qb, fun q2 => (ho.block Z (lt_of_row (g.zb q2)) (hx Z (o3 q2))).trans (g.zb q2), owns_same g.row (fun k hk => ?_)⟩, o1, o2, o3, o4⟩
  obtain ⟨cs, q⟩ := owns_lt g.row k hk
  exact ho.block k (lt_of_row q) (hx k (o4 k hk))
theorem Par.below {op P : Nat} {p : Ps} {O : Nat → Prop} {w w' : World} (h : Par op P p O w) (hb : Below w.heap.size w w') : Par op P p O w' := h.keep (Only.of_below (P := fun _ => False) hb) (fun _ _ q => q)
/-- What p.next leaves. -/
structure Nx (op P : Nat) (r : Ps × Nat) (O : Nat → Prop) (w w' : World) : Prop where
  ok : r.2 = 0 → r.1.st ≤ 3 → ∃ O', Par op P r.1 O' w' ∧ ∀ k, O' k → O k ∨ w.heap.size ≤ k
  bad : ∃ p' nx' hv', PAt op P p' nx' hv' w' ∧ (r.2 = 0 → p' = r.1)
  only : Only O w w'
theorem Lin.nx {op P L Q Z : Nat} {r : Ps × Nat} {nx hv v : Value} {O : Nat → Prop} {w w' : World} {st : Nat} (h : Lin op P r nx hv L Q Z v w w') (hst : st ≤ 1) (hnx : nx = nxt st L Q Z) (o1 : O P) (o2 : ∀ k, hv.ownBlock = some k → O k) (o3 : O L) (o4 : O Q) (o5 : ∀ k, v.ownBlock = some k → O k) : Nx op P r O w w' := by
  obtain ⟨⟨p', nx', hv', a1, a2, a3, a4, a5⟩, a6⟩ := h
  refine ⟨fun q hq3 => ?_, ⟨p', nx', hv', a1, a2⟩, a6.mono (fun k _ q => ?_)⟩
  · have e := a2 q
    subst e
    by_cases h1 : r.1.st ≤ 1
    · obtain ⟨b1, v', b2, b3⟩ := a4 q h1
      subst b1
      have en : nx' = nxt r.1.st L Q Z := by rw [hnx]; unfold nxt; rw [if_pos h1, if_pos hst]
      refine ⟨_, Par.make a1 (fun _ => ⟨en, b2⟩), ?_⟩
      intro k hk
      rcases hk with rfl | hk | ⟨_, rfl | rfl | hk⟩ | ⟨q, rfl⟩
      · exact .inl o1
      · rcases a3 k hk with q | q
        · exact .inl (o2 k q)
        · exact .inr q
      · exact .inl o3
      · exact .inl o4
      · rcases b3 k hk with q | q
        · exact .inl (o5 k q)
        · exact .inr q
      · omega
    · by_cases h2 : r.1.st = 2
      · obtain ⟨L', Q', Z', v', b1, b2, b3, b4, b5, b6⟩ := a5 q h2
        refine ⟨_, Par.make a1 (fun _ => ⟨by rw [h2]; exact b1, b2⟩), ?_⟩
        intro k hk
        rcases hk with rfl | hk | ⟨_, rfl | rfl | hk⟩ | ⟨q, rfl⟩
        · exact .inl o1
        · rcases a3 k hk with q | q
          · exact .inl (o2 k q)
          · exact .inr q
        · exact .inr b3
        · exact .inr b4
        · exact .inr (b6 k hk)
        · exact .inr b5
      · refine ⟨_, Par.make (L := 0) (Q := 0) (Z := 0) (v := .nilFunc) a1 (fun q => by omega), ?_⟩
        intro k hk
        rcases hk with rfl | hk | ⟨q, _⟩ | ⟨q, rfl⟩
        · exact .inl o1
        · rcases a3 k hk with q | q
          · exact .inl (o2 k q)
          · exact .inr q
        · omega
        · omega
  · rcases q with (rfl | q) | rfl | q
    · exact o1
    · exact o2 k q
    · exact o3
    · exact o5 k q
theorem Bod.nx {op P L Q Z : Nat} {r : Ps × Nat} {nx hv v : Value} {O : Nat → Prop} {w w' : World} (h : Bod op P r nx hv L Q Z v w w') (hr : r.1.st = 2 ∨ r.1.st = 3) (hnx : nx = nxt 2 L Q Z) (o1 : O P) (o2 : ∀ k, hv.ownBlock = some k → O k) (o3 : O L) (o4 : O Q) (o6 : O Z) (o5 : ∀ k, v.ownBlock = some k → O k) : Nx op P r O w w' := by
  obtain ⟨a1, a2, a6⟩ := h
  refine ⟨fun q hq3 => ?_, ⟨r.1, nx, hv, a1, fun _ => rfl⟩, a6.mono (fun k _ q => ?_)⟩
  · rcases hr with h2 | h2
    · obtain ⟨v', b2, b3⟩ := a2 h2
      refine ⟨_, Par.make a1 (fun _ => ⟨by rw [h2]; exact hnx, b2⟩), ?_⟩
      intro k hk
      rcases hk with rfl | hk | ⟨_, rfl | rfl | hk⟩ | ⟨q, rfl⟩
      · exact .inl o1
      · exact .inl (o2 k hk)
      · exact .inl o3
      · exact .inl o4
      · rcases b3 k hk with q | q
        · exact .inl (o5 k q)
        · exact .inr q
      · exact .inl o6
    · refine ⟨_, Par.make (L := 0) (Q := 0) (Z := 0) (v := .nilFunc) a1 (fun q => by omega), ?_⟩
      intro k hk
      rcases hk with rfl | hk | ⟨q, _⟩ | ⟨q, rfl⟩
      · exact .inl o1
      · exact .inl (o2 k hk)
      · omega
      · omega
  · rcases q with (rfl | q) | rfl | q
    · exact o1
    · exact o2 k q
    · exact o3
    · exact o5 k q
end Go.Proofs.YthlacailhfhjnaaGreatDoor
namespace Go.Proofs.YthlacailhfhjnaaGreatDoor
open Go.RowKit Go.Lib
def povC : Array Value := #[.int .i64 4, .nilFunc, .nilFunc, .int .i64 0, S [], S [], .int .i64 0, .slice none 0 0, .int .i64 0, S []]
def POv (P : Nat) (w : World) : Prop := w.heap[P]? = some (.cells povC 91 (0, 0))
theorem set10 (a0 a1 a2 a3 a4 a5 a6 a7 a8 a9 b0 b1 b2 b3 b4 b5 b6 b7 b8 b9 : Value) : ((((((((((#[a0, a1, a2, a3, a4, a5, a6, a7, a8, a9] : Array Value).setIfInBounds 0 b0).setIfInBounds 1 b1).setIfInBounds 2 b2).setIfInBounds 3 b3).setIfInBounds 4 b4).setIfInBounds 5 b5).setIfInBounds 6 b6).setIfInBounds 7 b7).setIfInBounds 8 b8).setIfInBounds 9 b9 = #[b0, b1, b2, b3, b4, b5, b6, b7, b8, b9] := by simp
/-- All ten cells of a block set anew. -/
theorem row10 {w : World} {P : Nat} {a0 a1 a2 a3 a4 a5 a6 a7 a8 a9 : Value} (h : w.heap[P]? = some (.cells #[a0, a1, a2, a3, a4, a5, a6, a7, a8, a9] 91 (0, 0))) (b0 b1 b2 b3 b4 b5 b6 b7 b8 b9 : Value) :
    ((((((((((w.setCell ⟨P, 0, none⟩ b0).setCell ⟨P, 1, none⟩ b1).setCell ⟨P, 2, none⟩ b2).setCell ⟨P, 3, none⟩ b3).setCell ⟨P, 4, none⟩ b4).setCell ⟨P, 5, none⟩ b5).setCell ⟨P, 6, none⟩ b6).setCell ⟨P, 7, none⟩ b7).setCell ⟨P, 8, none⟩ b8).setCell ⟨P, 9, none⟩ b9).heap[P]? = some (.cells #[b0, b1, b2, b3, b4, b5, b6, b7, b8, b9] 91 (0, 0)) := by
  have q0 := heap_setCell_same _ P 0 _ 91 b0 h
  have q1 := heap_setCell_same _ P 1 _ 91 b1 q0
  have q2 := heap_setCell_same _ P 2 _ 91 b2 q1
  have q3 := heap_setCell_same _ P 3 _ 91 b3 q2
  have q4 := heap_setCell_same _ P 4 _ 91 b4 q3
  have q5 := heap_setCell_same _ P 5 _ 91 b5 q4
  have q6 := heap_setCell_same _ P 6 _ 91 b6 q5
  have q7 := heap_setCell_same _ P 7 _ 91 b7 q6
  have q8 := heap_setCell_same _ P 8 _ 91 b8 q7
  have q9 := heap_setCell_same _ P 9 _ 91 b9 q8
  rw [q9, set10]
/-- What take leaves. -/
structure Tk (op P : Nat) (r : Ps × Nat) (O : Nat → Prop) (w w' : World) : Prop where
  ok : r.2 = 0 → ∃ O', Par op P r.1 O' w' ∧ ∀ k, O' k → O k ∨ w.heap.size ≤ k
  bad : r.2 ≠ 0 → POv P w'
  only : Only O w w'
theorem next47_line {B P L Q Z : Nat} {p : Ps} {nx hv v : Value} {O : Nat → Prop} {w : World} (h : PAt 47 P p nx hv w) (hl : LAt P p L Q Z v w) (hE : Env B w) (hok : OkL p) (hnx : nx = nxt p.st L Q Z) (hB : ∀ k, O k → B ≤ k) (o1 : O P) (o2 : ∀ k, hv.ownBlock = some k → O k) (o3 : O L) (o4 : O Q) (o5 : ∀ k, v.ownBlock = some k → O k) (b : UInt8) :
    Calls Tryz.prog 99 #[.int .u8 (b.toNat : Int), ptr L, ptr Q] w fun e w' => e = .returned (.int .i64 (if b = 10 then judge opM { p with ln := [] } p.ln else lrow p b).2) ∧ Nx 47 P (if b = 10 then judge opM { p with ln := [] } p.ln else lrow p b) O w w' := by
  by_cases hb : b = 10
  · subst hb
    refine (linef47_any h hl hE (hB L o3) hok).mono ?_
    rintro e w' ⟨he, hn⟩
    exact ⟨by rw [he, if_pos rfl], by rw [if_pos rfl]; exact hn.nx hok.1 hnx o1 o2 o3 o4 o5⟩
  · refine (linea_any h hl hok b hb).mono ?_
    rintro e w' ⟨he, hn⟩
    exact ⟨by rw [he, if_neg hb], by rw [if_neg hb]; exact hn.nx hok.1 hnx o1 o2 o3 o4 o5⟩
set_option maxHeartbeats 8000000 in
set_option maxRecDepth 8000 in
theorem take47_any {B P : Nat} {p : Ps} {O : Nat → Prop} {w : World} (h : Par 47 P p O w) (hE : Env B w) (hB : ∀ k, O k → B ≤ k) (hok : OkP p) (hrd : p.rd ≤ 4000000000000000000) (b : UInt8) :
    Calls Tryz.prog 48 #[ptr P, .int .u8 (b.toNat : Int)] w fun e w' => e = .returned (.int .i64 (step opM p b).2) ∧ Tk 47 P (step opM p b) O w w' := by
  obtain ⟨⟨nx, hv, h1, h2, h3⟩, h4, h5⟩ := h
  obtain ⟨L, Q, Z, v, hnx, hL, o1, o2, o3, o4⟩ := h3 hok.1
  have c3 : w.cell? ⟨P, 3, none⟩ = some (.int .i64 p.rd) := h1.cell 3
  have c1 : w.cell? ⟨P, 1, none⟩ = some nx := h1.cell 1
  have z3 : ∀ j, w.frozen? ⟨P, j, none⟩ = false := h1.fz
  have hlt := h1.lt
  have P1 := h1.set 3 (.int .i64 ((p.rd + 1 : Nat) : Int)) (op' := 47) (nx' := nx) (p' := { p with rd := p.rd + 1 }) rfl rfl
  have hPL : P ≠ L := fun e => by have := h1.blk; rw [e, hL.lb] at this; simp at this
  have hPQ : P ≠ Q := fun e => by have := h1.blk; rw [e, hL.qb] at this; simp at this
  have hPv : ∀ k, v.ownBlock = some k → ¬ k = P := fun k hk e => by
    obtain ⟨cs, q⟩ := owns_lt hL.row k hk
    rw [e, h1.blk] at q
    simp at q
  have L1 : LAt P { p with rd := p.rd + 1 } L Q Z v (w.setCell ⟨P, 3, none⟩ (.int .i64 ((p.rd + 1 : Nat) : Int))) := by
    refine ⟨?_, ?_, fun q => ?_, ?_⟩
    · rw [heap_setCell_other w ⟨P, 3, none⟩ L _ (fun e => hPL e.symm)]; exact hL.lb
    · rw [heap_setCell_other w ⟨P, 3, none⟩ Q _ (fun e => hPQ e.symm)]; exact hL.qb
    · have hz := hL.zb q
      rw [heap_setCell_other w ⟨P, 3, none⟩ Z _ (fun e => by simp only at e; rw [e, h1.blk] at hz; simp at hz)]; exact hz
    · exact owns_same hL.row (fun k hk => heap_setCell_other w ⟨P, 3, none⟩ k _ (hPv k hk))
  have O1 := hide ((Only.refl O w).put ⟨P, 3, none⟩ (.int .i64 ((p.rd + 1 : Nat) : Int)) (.inl h4))
  have E1 := hE.only (unhide O1) hB
  have hsz : (w.setCell ⟨P, 3, none⟩ (.int .i64 ((p.rd + 1 : Nat) : Int))).heap.size = w.heap.size := by simp [World.setCell]
  have H4 := hide h4
  have e31 : (⟨P, 3, none⟩ : Addr) ≠ ⟨P, 1, none⟩ := by simp
  have fin : ∀ w2, Nx 47 P (step opM p b) O (w.setCell ⟨P, 3, none⟩ (.int .i64 ((p.rd + 1 : Nat) : Int))) w2 → (step opM p b).2 = 0 → Tk 47 P (step opM p b) O w w2 := by
    intro w2 hn q
    refine ⟨fun _ => ?_, fun q2 => absurd q q2, (unhide O1).trans hn.only (fun _ _ q => q)⟩
    obtain ⟨O', a1, a2⟩ := hn.ok q (step_rd opM p b q (by have := hok.1; omega)).2
    exact ⟨O', a1, fun k hk => by rw [← hsz]; exact a2 k hk⟩
  have FIN := hide fin
  have hS : step opM p b = if p.st ≤ 1 then (if b = 10 then judge opM { ({ p with rd := p.rd + 1 } : Ps) with ln := [] } p.ln else lrow { p with rd := p.rd + 1 } b) else brow { p with rd := p.rd + 1 } b := rfl
  obtain ⟨k1, k2, k3, k4, k5, k6⟩ := hok
  have HRD := hide (show (p.rd : Int) + 1 = ((p.rd + 1 : Nat) : Int) by omega)
  by_cases hst : p.st ≤ 1
  · rw [if_pos hst] at hS
    have HN := hide (next47_line (O := O) P1 L1 E1 ⟨hst, k5 hst, k2, k3, k4⟩ hnx hB h4 h2 o1 o2 o4 b)
    rw [← hS] at HN
    have en : nx = .func (.func 99) #[] #[ptr L, ptr Q] := by rw [hnx]; unfold nxt; rw [if_pos hst]
    rw [en] at c1
    clear h1 h2 h3 h5 P1 L1 E1 hE fin hL o1 o2 o3 o4 hS hnx h4 k5 k6 hst en
    generalize step opM p b = J at *
    go_enter Tryz.func48, Tryz.ntmps48
    go_wp2_with fail
    rw [unhide HRD]
    refine (unhide HN).mono ?_
    rintro e w2 ⟨rfl, hn⟩
    have HNX := hide hn
    obtain ⟨p', nx', hv', hbad, _⟩ := hn.bad
    have HB := hide hbad
    have d0 := hbad.cell 0
    have d1 := hbad.cell 1
    have d2 := hbad.cell 2
    have d3 := hbad.cell 3
    have d4 := hbad.cell 4
    have d5 := hbad.cell 5
    have d6 := hbad.cell 6
    have d7 := hbad.cell 7
    have d8 := hbad.cell 8
    have d9 := hbad.cell 9
    have dz : ∀ j, w2.frozen? ⟨P, j, none⟩ = false := hbad.fz
    have dl := hbad.lt
    simp only [cellsP, List.getElem?_toArray, List.getElem?_cons_zero, List.getElem?_cons_succ] at d0 d1 d2 d3 d4 d5 d6 d7 d8 d9
    clear hn hbad
    by_cases hJ : J.2 = 0
    · have HJ := hide hJ
      have iJ : ((J.2 : Nat) : Int) = 0 := by omega
      clear hJ
      go_wp2
      go_ret
      exact ⟨ret_int (by have := unhide HJ; omega), unhide FIN w2 (unhide HNX) (unhide HJ)⟩
    · have HJ := hide hJ
      have iJ : ¬ ((J.2 : Nat) : Int) = 0 := by omega
      clear hJ
      go_wp2
      go_ret
      have q9 := hide (row10 (unhide HB).blk (.int .i64 4) .nilFunc .nilFunc (.int .i64 0) (S []) (S []) (.int .i64 0) (.slice none 0 0) (.int .i64 0) (S []))
      exact ⟨rfl, ⟨fun q => absurd q (unhide HJ), fun _ => unhide q9, (((((((((((unhide O1).trans (unhide HNX).only (fun _ _ q => q)).put ⟨P, 0, none⟩ _ (.inl (unhide H4))).put ⟨P, 1, none⟩ _ (.inl (unhide H4))).put ⟨P, 2, none⟩ _ (.inl (unhide H4))).put ⟨P, 3, none⟩ _ (.inl (unhide H4))).put ⟨P, 4, none⟩ _ (.inl (unhide H4))).put ⟨P, 5, none⟩ _ (.inl (unhide H4))).put ⟨P, 6, none⟩ _ (.inl (unhide H4))).put ⟨P, 7, none⟩ _ (.inl (unhide H4))).put ⟨P, 8, none⟩ _ (.inl (unhide H4))).put ⟨P, 9, none⟩ _ (.inl (unhide H4))⟩⟩
  · rw [if_neg hst] at hS
    have hst2 : p.st = 2 := by omega
    have HN := hide ((bodya_any P1 L1 hst2 (k6 hst2) k2 b).mono (fun e w' hh => (show e = .returned (.int .i64 (brow { p with rd := p.rd + 1 } b).2) ∧ Nx 47 P (brow { p with rd := p.rd + 1 } b) O (w.setCell ⟨P, 3, none⟩ (.int .i64 ((p.rd + 1 : Nat) : Int))) w' from ⟨hh.1, hh.2.nx (by
      unfold brow
      split
      · right; rfl
      · left; exact hst2) (by rw [hnx, hst2]) h4 h2 o1 o2 (o3 hst2) o4⟩)))
    rw [← hS] at HN
    have en : nx = .func (.func 148) #[] #[ptr L, ptr Z, ptr Q] := by rw [hnx]; unfold nxt; rw [if_neg hst]
    rw [en] at c1
    clear h1 h2 h3 h5 P1 L1 E1 hE fin hL o1 o2 o3 o4 hS hnx h4 k5 k6 hst en hst2
    generalize step opM p b = J at *
    go_enter Tryz.func48, Tryz.ntmps48
    go_wp2_with fail
    rw [unhide HRD]
    refine (unhide HN).mono ?_
    rintro e w2 ⟨rfl, hn⟩
    have HNX := hide hn
    obtain ⟨p', nx', hv', hbad, _⟩ := hn.bad
    have HB := hide hbad
    have d0 := hbad.cell 0
    have d1 := hbad.cell 1
    have d2 := hbad.cell 2
    have d3 := hbad.cell 3
    have d4 := hbad.cell 4
    have d5 := hbad.cell 5
    have d6 := hbad.cell 6
    have d7 := hbad.cell 7
    have d8 := hbad.cell 8
    have d9 := hbad.cell 9
    have dz : ∀ j, w2.frozen? ⟨P, j, none⟩ = false := hbad.fz
    have dl := hbad.lt
    simp only [cellsP, List.getElem?_toArray, List.getElem?_cons_zero, List.getElem?_cons_succ] at d0 d1 d2 d3 d4 d5 d6 d7 d8 d9
    clear hn hbad
    by_cases hJ : J.2 = 0
    · have HJ := hide hJ
      have iJ : ((J.2 : Nat) : Int) = 0 := by omega
      clear hJ
      go_wp2
      go_ret
      exact ⟨ret_int (by have := unhide HJ; omega), unhide FIN w2 (unhide HNX) (unhide HJ)⟩
    · have HJ := hide hJ
      have iJ : ¬ ((J.2 : Nat) : Int) = 0 := by omega
      clear hJ
      go_wp2
      go_ret
      have q9 := hide (row10 (unhide HB).blk (.int .i64 4) .nilFunc .nilFunc (.int .i64 0) (S []) (S []) (.int .i64 0) (.slice none 0 0) (.int .i64 0) (S []))
      exact ⟨rfl, ⟨fun q => absurd q (unhide HJ), fun _ => unhide q9, (((((((((((unhide O1).trans (unhide HNX).only (fun _ _ q => q)).put ⟨P, 0, none⟩ _ (.inl (unhide H4))).put ⟨P, 1, none⟩ _ (.inl (unhide H4))).put ⟨P, 2, none⟩ _ (.inl (unhide H4))).put ⟨P, 3, none⟩ _ (.inl (unhide H4))).put ⟨P, 4, none⟩ _ (.inl (unhide H4))).put ⟨P, 5, none⟩ _ (.inl (unhide H4))).put ⟨P, 6, none⟩ _ (.inl (unhide H4))).put ⟨P, 7, none⟩ _ (.inl (unhide H4))).put ⟨P, 8, none⟩ _ (.inl (unhide H4))).put ⟨P, 9, none⟩ _ (.inl (unhide H4))⟩⟩
end Go.Proofs.YthlacailhfhjnaaGreatDoor
namespace Go.Proofs.YthlacailhfhjnaaGreatDoor
open Go.RowKit Go.Lib
set_option maxHeartbeats 8000000 in
set_option maxRecDepth 8000 in
theorem begin_any {op P : Nat} {p : Ps} {nx hv : Value} {w : World} (h : PAt op P p nx hv w) :
    Calls Tryz.prog 49 #[ptr P] w fun e w' => e = .returned (.tuple #[]) ∧ (∃ O', Par op P p0 O' w' ∧ ∀ k, O' k → k = P ∨ w.heap.size ≤ k) ∧ Only (fun k => k = P) w w' := by
  have HB := hide h
  have d0 := h.cell 0
  have d1 := h.cell 1
  have d2 := h.cell 2
  have d3 := h.cell 3
  have d4 := h.cell 4
  have d5 := h.cell 5
  have d6 := h.cell 6
  have d7 := h.cell 7
  have d8 := h.cell 8
  have d9 := h.cell 9
  have dz : ∀ j, w.frozen? ⟨P, j, none⟩ = false := h.fz
  have dl := h.lt
  simp only [cellsP, List.getElem?_toArray, List.getElem?_cons_zero, List.getElem?_cons_succ] at d0 d1 d2 d3 d4 d5 d6 d7 d8 d9
  clear h
  have q9 := hide (row10 (unhide HB).blk (.int .i64 0) .nilFunc (Fn1 op) (.int .i64 0) (S []) (S []) (.int .i64 0) (.slice none 0 0) (.int .i64 (-1)) (S []))
  have o9 := hide (((((((((((Only.refl (fun k => k = P) w).put ⟨P, 0, none⟩ (.int .i64 0) (.inl rfl)).put ⟨P, 1, none⟩ .nilFunc (.inl rfl)).put ⟨P, 2, none⟩ (Fn1 op) (.inl rfl)).put ⟨P, 3, none⟩ (.int .i64 0) (.inl rfl)).put ⟨P, 4, none⟩ (S []) (.inl rfl)).put ⟨P, 5, none⟩ (S []) (.inl rfl)).put ⟨P, 6, none⟩ (.int .i64 0) (.inl rfl)).put ⟨P, 7, none⟩ (.slice none 0 0) (.inl rfl)).put ⟨P, 8, none⟩ (.int .i64 (-1)) (.inl rfl)).put ⟨P, 9, none⟩ (S []) (.inl rfl))
  go_enter Tryz.func49, Tryz.ntmps49
  go_wp2_with fail
  have hs : ((((((((((w.setCell ⟨P, 0, none⟩ (.int .i64 0)).setCell ⟨P, 1, none⟩ .nilFunc).setCell ⟨P, 2, none⟩ (Fn1 op)).setCell ⟨P, 3, none⟩ (.int .i64 0)).setCell ⟨P, 4, none⟩ (S [])).setCell ⟨P, 5, none⟩ (S [])).setCell ⟨P, 6, none⟩ (.int .i64 0)).setCell ⟨P, 7, none⟩ (.slice none 0 0)).setCell ⟨P, 8, none⟩ (.int .i64 (-1))).setCell ⟨P, 9, none⟩ (S [])).heap.size = w.heap.size := by simp [World.setCell]
  generalize ((((((((((w.setCell ⟨P, 0, none⟩ (.int .i64 0)).setCell ⟨P, 1, none⟩ .nilFunc).setCell ⟨P, 2, none⟩ (Fn1 op)).setCell ⟨P, 3, none⟩ (.int .i64 0)).setCell ⟨P, 4, none⟩ (S [])).setCell ⟨P, 5, none⟩ (S [])).setCell ⟨P, 6, none⟩ (.int .i64 0)).setCell ⟨P, 7, none⟩ (.slice none 0 0)).setCell ⟨P, 8, none⟩ (.int .i64 (-1))).setCell ⟨P, 9, none⟩ (S [])) = W1 at *
  have HS := hide hs
  clear hs
  refine (lines_any P W1).mono ?_
  rintro e w2 ⟨rfl, hw2⟩
  have hb2 : Below W1.heap.size W1 w2 := by rw [hw2]; exact ((Below.refl _ _).alloc (Nat.le_refl _) _).alloc (by simp) _
  have blk2 := (hb2.block P (by rw [unhide HS]; exact dl)).trans (unhide q9)
  have e1 : w2.cell? ⟨P, 1, none⟩ = some .nilFunc := cell_of_row w2 P 1 _ 91 (0, 0) blk2
  have ez : ∀ j, w2.frozen? ⟨P, j, none⟩ = false := fun j => frozen_of_row w2 P j _ 91 blk2
  have el := lt_of_row blk2
  have hQ : w2.heap[W1.heap.size]? = some (.cells #[ptr P] 80 (0, 0)) := by
    rw [hw2, heap_alloc_old _ _ (by simp)]; exact heap_alloc_new _ _
  have hL : w2.heap[W1.heap.size + 1]? = some (.cells #[.slice none 0 0] 102 (0, 0)) := by
    rw [hw2]
    have := heap_alloc_new (W1.alloc (.cells #[ptr P] 80)) (.cells #[.slice none 0 0] 102)
    simpa using this
  have HH := hide (And.intro hb2 (And.intro blk2 (And.intro hQ hL)))
  clear hb2 blk2 hQ hL hw2
  simp only [nxt]
  go_wp2
  go_end0
  obtain ⟨hb2, blk2, hQ, hL⟩ := unhide HH
  have hPQ : ¬ W1.heap.size = P := fun e => by rw [← unhide HS] at dl; omega
  have hPL : ¬ W1.heap.size + 1 = P := fun e => by rw [← unhide HS] at dl; omega
  have hp : PAt op P p0 (nxt 0 (W1.heap.size + 1) W1.heap.size 0) (.slice none 0 0) (w2.setCell ⟨P, 1, none⟩ (nxt 0 (W1.heap.size + 1) W1.heap.size 0)) := by
    refine ⟨?_, ⟨rfl, .inl ⟨rfl, rfl⟩⟩⟩
    rw [heap_setCell_same w2 P 1 _ 91 _ blk2]
    rfl
  have hl : LAt P p0 (W1.heap.size + 1) W1.heap.size 0 (.slice none 0 0) (w2.setCell ⟨P, 1, none⟩ (nxt 0 (W1.heap.size + 1) W1.heap.size 0)) := by
    refine ⟨?_, ?_, fun q => by simp [p0] at q, ⟨rfl, .inl ⟨rfl, rfl⟩⟩⟩
    · rw [heap_setCell_other w2 ⟨P, 1, none⟩ _ _ hPL]; exact hL
    · rw [heap_setCell_other w2 ⟨P, 1, none⟩ _ _ hPQ]; exact hQ
  refine ⟨rfl, ⟨_, Par.make hp (fun _ => ⟨rfl, hl⟩), ?_⟩, ((unhide o9).trans (Only.of_below (P := fun k => k = P) hb2) (fun _ _ q => q)).put ⟨P, 1, none⟩ _ (.inl rfl)⟩
  intro k hk
  rcases hk with rfl | hk | ⟨_, rfl | rfl | hk⟩ | ⟨q, rfl⟩
  · exact .inl rfl
  · cases hk
  · exact .inr (by have := unhide HS; omega)
  · exact .inr (by have := unhide HS; omega)
  · cases hk
  · simp [p0] at q
set_option maxHeartbeats 8000000 in
set_option maxRecDepth 8000 in
theorem newParser_any (op : Nat) (w : World) :
    Calls Tryz.prog 46 #[Fn1 op] w fun e w' => ∃ P O, e = .returned (ptr P) ∧ Par op P p0 O w' ∧ (∀ k, O k → w.heap.size ≤ k) ∧ Below w.heap.size w w' := by
  have h0 : PAt op w.heap.size ⟨0, 0, [], f00, [], 0, []⟩ .nilFunc (.slice none 0 0) (w.alloc (.cells #[.int .i64 0, .nilFunc, Fn1 op, .int .i64 0, S [], S [], .int .i64 0, .slice none 0 0, .int .i64 0, S []] 91)) := ⟨heap_alloc_new _ _, ⟨rfl, .inl ⟨rfl, rfl⟩⟩⟩
  have HB := hide (begin_any h0)
  have b0 := hide ((Below.refl w.heap.size w).alloc (Nat.le_refl _) (.cells #[.int .i64 0, .nilFunc, Fn1 op, .int .i64 0, S [], S [], .int .i64 0, .slice none 0 0, .int .i64 0, S []] 91))
  have hs : Hid ((w.alloc (.cells #[.int .i64 0, .nilFunc, Fn1 op, .int .i64 0, S [], S [], .int .i64 0, .slice none 0 0, .int .i64 0, S []] 91)).heap.size = w.heap.size + 1) := hide (by simp)
  clear h0
  go_enter Tryz.func46, Tryz.ntmps46
  go_wp2_with fail
  generalize w.alloc (.cells #[.int .i64 0, .nilFunc, Fn1 op, .int .i64 0, S [], S [], .int .i64 0, .slice none 0 0, .int .i64 0, S []] 91) = W1 at *
  refine (unhide HB).mono ?_
  rintro e w2 ⟨rfl, hex, ho⟩
  have HX := hide hex
  have HO := hide ho
  clear hex ho
  go_wp2
  go_ret
  obtain ⟨O', a1, a2⟩ := unhide HX
  refine ⟨w.heap.size, O', rfl, a1, fun k hk => ?_, (unhide HO).below (unhide b0) (by rw [unhide hs]; omega) (fun k e => by rw [e]; exact Nat.le_refl _)⟩
  rcases a2 k hk with rfl | q
  · exact Nat.le_refl _
  · rw [unhide hs] at q; omega
/-- A reader: what it has read, with the blocks that are its own. -/
structure Rdr (R : Nat) (p : Ps) (O : Nat → Prop) (w : World) : Prop where
  ex : ∃ P, w.heap[R]? = some (.cells #[ptr P] 84 (0, 0)) ∧ ((OkP p ∧ ∃ O1, Par 47 P p O1 w ∧ (∀ k, O1 k → O k) ∧ ¬ O1 R) ∨ (p = pov ∧ POv P w ∧ O P))
  inR : O R
  lt : ∀ k, O k → k < w.heap.size
theorem Rdr.keep {R : Nat} {p : Ps} {O X : Nat → Prop} {w w' : World} (h : Rdr R p O w) (ho : Only X w w') (hx : ∀ k, O k → ¬ X k) : Rdr R p O w' := by
  obtain ⟨⟨P, h1, h2⟩, h3, h4⟩ := h
  refine ⟨⟨P, (ho.block R (lt_of_row h1) (hx R h3)).trans h1, ?_⟩, h3, fun k hk => Nat.lt_of_lt_of_le (h4 k hk) ho.size⟩
  rcases h2 with ⟨a1, O1, a2, a3, a4⟩ | ⟨a1, a2, a3⟩
  · exact .inl ⟨a1, O1, a2.keep ho (fun k hk => hx k (a3 k hk)), a3, a4⟩
  · exact .inr ⟨a1, (ho.block P (lt_of_row a2) (hx P a3)).trans a2, a3⟩
theorem Rdr.below {R : Nat} {p : Ps} {O : Nat → Prop} {w w' : World} (h : Rdr R p O w) (hb : Below w.heap.size w w') : Rdr R p O w' := h.keep (Only.of_below (P := fun _ => False) hb) (fun _ _ q => q)
set_option maxHeartbeats 8000000 in
set_option maxRecDepth 8000 in
theorem newReader_any (w : World) :
    Calls Tryz.prog 19 #[] w fun e w' => ∃ R O, e = .returned (ptr R) ∧ Rdr R p0 O w' ∧ (∀ k, O k → w.heap.size ≤ k) ∧ Below w.heap.size w w' := by
  have HN := hide (newParser_any 47 w)
  go_enter Tryz.func19, Tryz.ntmps19
  go_wp2_with fail
  refine (unhide HN).mono ?_
  rintro e w1 ⟨P, O, rfl, h1, h2, h3⟩
  have H1 := hide h1
  have H2 := hide h2
  have H3 := hide h3
  clear h1 h2 h3
  go_wp2
  go_ret
  have hal := (Below.refl w1.heap.size w1).alloc (Nat.le_refl _) (Obj.cells #[ptr P] 84)
  refine ⟨w1.heap.size, fun k => O k ∨ k = w1.heap.size, rfl, ⟨⟨P, heap_alloc_new _ _, .inl ⟨okP0, O, (unhide H1).below hal, fun k hk => .inl hk, fun q => by have := (unhide H1).lt _ q; omega⟩⟩, .inr rfl, ?_⟩, ?_, (unhide H3).trans (hal.mono (unhide H3).size)⟩
  · intro k hk
    rcases hk with hk | rfl
    · have := (unhide H1).lt k hk; simp; omega
    · simp
  · intro k hk
    rcases hk with hk | rfl
    · exact unhide H2 k hk
    · exact (unhide H3).size
set_option maxHeartbeats 8000000 in
set_option maxRecDepth 8000 in
theorem waiting_any {R : Nat} {p : Ps} {O : Nat → Prop} {w : World} (h : Rdr R p O w) :
    Calls Tryz.prog 25 #[ptr R] w fun e w' => e = .returned (.int .i64 p.rd) ∧ w' = w := by
  obtain ⟨⟨P, h1, h2⟩, h3, h4⟩ := h
  have c0 : w.cell? ⟨R, 0, none⟩ = some (ptr P) := cell_of_row w R 0 _ 84 (0, 0) h1
  have c3 : w.cell? ⟨P, 3, none⟩ = some (.int .i64 p.rd) := by
    rcases h2 with ⟨_, O1, ⟨⟨nx, hv, q, _⟩, _, _⟩, _⟩ | ⟨rfl, q, _⟩
    · exact q.cell 3
    · exact cell_of_row w P 3 _ 91 (0, 0) q
  clear h1 h2 h3 h4
  go_enter Tryz.func25, Tryz.ntmps25
  go_wp2
  go_ret
  exact ⟨rfl, rfl⟩
end Go.Proofs.YthlacailhfhjnaaGreatDoor
namespace Go.Proofs.YthlacailhfhjnaaGreatDoor
open Go.RowKit Go.Lib
theorem step_err (op : Bs → Option Fst) (p : Ps) (b : UInt8) (h : (step op p b).2 ≠ 0) : (step op p b).1 = pov := by
  unfold step at h ⊢
  split
  · rename_i h1
    rw [if_pos h1] at h
    split
    · rename_i h2
      rw [if_pos h2] at h
      unfold judge at h ⊢
      split
      · rename_i h3
        rw [if_pos h3] at h
        unfold jFst at h ⊢
        split
        · rfl
        · rename_i f h4
          rw [h4] at h
          split
          · rename_i h5; simp [h5] at h
          · rfl
      · rename_i h3
        rw [if_neg h3] at h
        split
        · rename_i h4; rw [if_pos h4] at h; simp at h
        · rename_i h4
          rw [if_neg h4] at h
          unfold jHdr at h ⊢
          split
          · rfl
          · rename_i h5
            rw [if_neg h5] at h
            split
            · rename_i h6
              rw [if_pos h6] at h
              unfold jLen at h ⊢
              split
              · rfl
              · split
                · rfl
                · rename_i h7 h8; rw [if_neg h7, if_neg h8] at h; simp at h
            · rename_i h6
              rw [if_neg h6] at h
              split
              · rfl
              · rename_i h7; rw [if_neg h7] at h; simp at h
    · rename_i h2
      rw [if_neg h2] at h
      split
      · rfl
      · rename_i h3; rw [if_neg h3] at h; simp at h
  · rename_i h1
    rw [if_neg h1] at h
    split
    · rename_i h2; rw [if_pos h2] at h; simp at h
    · rename_i h2; rw [if_neg h2] at h; simp at h
theorem fd_one (q : Ps) (b : UInt8) (l : List Ms) : fd q [b] l = if (step opM q b).2 ≠ 0 then ((step opM q b).1, l, (step opM q b).2) else if (step opM q b).1.st = 3 then (p0, l ++ [(step opM q b).1.ms], 0) else ((step opM q b).1, l, 0) := by
  simp only [fd]
theorem fd_take {p q : Ps} {s : Bs} {l : List Ms} {k : Nat} (hk : k < s.length) (h : fd p (s.take k) [] = (q, l, 0)) : fd p (s.take (k + 1)) [] = fd q [s[k]] l := by
  rw [take_snoc s k hk, fd_append, h]
  simp
/-- What goes wrong goes wrong for all that follows. -/
theorem fd_stop {p : Ps} {s : Bs} {r : Ps × List Ms × Nat} (k : Nat) (h : fd p (s.take k) [] = r) (he : r.2.2 ≠ 0) : fd p s [] = r := by
  conv => lhs; rw [← List.take_append_drop k s, fd_append, h]
  rw [if_pos he]
theorem fd_rd (p : Ps) (s : Bs) (l : List Ms) (hp : p.st ≤ 3) (h : (fd p s l).2.2 = 0) : (fd p s l).1.rd ≤ p.rd + s.length ∧ (fd p s l).1.st ≤ 3 := by
  induction s generalizing p l with
  | nil => exact ⟨by simp [fd], hp⟩
  | cons b s ih =>
    simp only [fd] at h ⊢
    split
    · rename_i h1; rw [if_pos h1] at h; exact absurd h h1
    · rename_i h1
      rw [if_neg h1] at h
      have h1' : (step opM p b).2 = 0 := by simpa using h1
      have h2 := step_rd opM p b h1' hp
      split
      · rename_i h3
        rw [if_pos h3] at h
        have := ih p0 _ (by decide) h
        exact ⟨by have := this.1; simp [p0] at this ⊢; omega, this.2⟩
      · rename_i h3
        rw [if_neg h3] at h
        have := ih _ _ h2.2 h
        exact ⟨by simp only [List.length_cons]; omega, this.2⟩
def cellsM (l : List (Ms × Value)) : List Value := l.flatMap fun x => [S x.1.m, S x.1.p, x.2, S x.1.b]
theorem cellsM_append (a b : List (Ms × Value)) : cellsM (a ++ b) = cellsM a ++ cellsM b := by simp [cellsM]
/-- Messages in memory: their row, and the rows of their headers. -/
structure MAt (V : Value) (l : List (Ms × Value)) (M : Nat → Prop) (w : World) : Prop where
  row : w.ownsRow 0 24 4 V l.length (cellsM l)
  hrow : ∀ x ∈ l, w.ownsRow 0 35 2 x.2 x.1.hs.length (cellsF x.1.hs)
  inV : ∀ k, V.ownBlock = some k → M k
  inH : ∀ x ∈ l, ∀ k, x.2.ownBlock = some k → M k
  apart : l.Pairwise (fun x y => ∀ k, x.2.ownBlock = some k → y.2.ownBlock ≠ some k)
  lt : ∀ k, M k → k < w.heap.size
theorem MAt.nil (w : World) : MAt (.slice none 0 0) [] (fun _ => False) w := ⟨⟨rfl, .inl ⟨rfl, rfl⟩⟩, fun _ h => (nomatch h), fun _ h => (nomatch h), fun _ h => (nomatch h), List.Pairwise.nil, fun _ q => q.elim⟩
theorem MAt.keep {V : Value} {l : List (Ms × Value)} {M X : Nat → Prop} {w w' : World} (h : MAt V l M w) (ho : Only X w w') (hx : ∀ k, M k → ¬ X k) : MAt V l M w' := by
  refine ⟨owns_same h.row (fun k hk => ho.block k (h.lt k (h.inV k hk)) (hx k (h.inV k hk))), fun x hxl => owns_same (h.hrow x hxl) (fun k hk => ho.block k (h.lt k (h.inH x hxl k hk)) (hx k (h.inH x hxl k hk))), h.inV, h.inH, h.apart, fun k hk => Nat.lt_of_lt_of_le (h.lt k hk) ho.size⟩
/-- What holds between two bytes of Feed. -/
structure Fdj (R P : Nat) (p : Ps) (s : Bs) (O : Nat → Prop) (w : World) (k : Nat) (q : Ps) (l : List (Ms × Value)) (O' M : Nat → Prop) (V : Value) (wr : World) : Prop where
  fdq : fd p (s.take k) [] = (q, l.map (·.1), 0)
  ok : OkP q
  par : Par 47 P q O' wr
  mat : MAt V l M wr
  s1 : ∀ j, O' j → O j ∨ w.heap.size ≤ j
  s2 : ∀ j, M j → O j ∨ w.heap.size ≤ j
  s3 : ∀ j, O' j → ¬ M j
  s4 : ¬ O' R
  s5 : ¬ M R
  rb : wr.heap[R]? = some (.cells #[ptr P] 84 (0, 0))
  only : Only O w wr
  inR : O R
/-- What Feed leaves. -/
structure Fed (R : Nat) (r : Ps × List Ms × Nat) (O : Nat → Prop) (V : Value) (w w' : World) : Prop where
  ex : ∃ l O' M, r.2.1 = l.map (·.1) ∧ MAt V l M w' ∧ Rdr R r.1 O' w' ∧ (∀ j, O' j → O j ∨ w.heap.size ≤ j) ∧ (∀ j, M j → O j ∨ w.heap.size ≤ j) ∧ (∀ j, O' j → ¬ M j)
  only : Only O w w'
variable {R P k : Nat} {p q : Ps} {s : Bs} {O O' M : Nat → Prop} {w wr w2 : World} {l : List (Ms × Value)} {V : Value}
theorem Fdj.drew (h : Fdj R P p s O w k q l O' M V wr) : Fdj R P p s O w k q l O' M V wr.drew :=
  ⟨h.fdq, h.ok, h.par.below ((Below.refl _ _).drew), h.mat.keep (Only.drew (fun _ => False) wr) (fun _ _ q => q), h.s1, h.s2, h.s3, h.s4, h.s5, h.rb, h.only.trans (Only.drew (fun _ => False) wr) (fun _ _ q => q.elim), h.inR⟩
theorem Fdj.on (h : Fdj R P p s O w k q l O' M V wr) (ho : Only O' wr w2) : Only O w w2 :=
  h.only.trans ho (fun j hj q => by rcases h.s1 j q with r | r; exact r; omega)
theorem Fdj.rb2 (h : Fdj R P p s O w k q l O' M V wr) (ho : Only O' wr w2) : w2.heap[R]? = some (.cells #[ptr P] 84 (0, 0)) := (ho.block R (lt_of_row h.rb) h.s4).trans h.rb
theorem Fdj.mat2 (h : Fdj R P p s O w k q l O' M V wr) (ho : Only O' wr w2) : MAt V l M w2 := h.mat.keep ho (fun j hj q => h.s3 j q hj)
theorem Fdj.err (h : Fdj R P p s O w k q l O' M V wr) (hk : k < s.length) (ht : Tk 47 P (step opM q s[k]) O' wr w2) (hne : (step opM q s[k]).2 ≠ 0) : (fd p s []).2.2 = (step opM q s[k]).2 ∧ Fed R (fd p s []) O V w w2 := by
  have hf : fd p s [] = (pov, l.map (·.1), (step opM q s[k]).2) := by
    refine fd_stop (k + 1) ?_ hne
    rw [fd_take hk h.fdq, fd_one, if_pos hne, step_err opM q _ hne]
  rw [hf]
  refine ⟨rfl, ⟨⟨l, fun j => O' j ∨ j = R, M, rfl, h.mat2 ht.only, ⟨⟨P, h.rb2 ht.only, .inr ⟨rfl, ht.bad hne, .inl h.par.inP⟩⟩, .inr rfl, ?_⟩, ?_, h.s2, ?_⟩, h.on ht.only⟩⟩
  · intro j hj
    rcases hj with hj | rfl
    · exact Nat.lt_of_lt_of_le (h.par.lt j hj) ht.only.size
    · exact Nat.lt_of_lt_of_le (lt_of_row h.rb) ht.only.size
  · intro j hj
    rcases hj with hj | rfl
    · exact h.s1 j hj
    · exact .inl h.inR
  · intro j hj
    rcases hj with hj | rfl
    · exact h.s3 j hj
    · exact h.s5
theorem Fdj.go (h : Fdj R P p s O w k q l O' M V wr) (hk : k < s.length) (ht : Tk 47 P (step opM q s[k]) O' wr w2) (he : (step opM q s[k]).2 = 0) (h3 : (step opM q s[k]).1.st ≠ 3) : ∃ O2, Fdj R P p s O w (k + 1) (step opM q s[k]).1 l O2 M V w2 := by
  obtain ⟨O2, a1, a2⟩ := ht.ok he
  refine ⟨O2, ?_, step_ok opM q _ h.ok he h3, a1, h.mat2 ht.only, ?_, h.s2, ?_, ?_, h.s5, h.rb2 ht.only, h.on ht.only, h.inR⟩
  · rw [fd_take hk h.fdq, fd_one, if_neg (by simpa using he), if_neg h3]
  · intro j hj
    rcases a2 j hj with q | q
    · exact h.s1 j q
    · exact .inr (Nat.le_trans h.only.size q)
  · intro j hj hm
    rcases a2 j hj with q | q
    · exact h.s3 j q hm
    · have := h.mat.lt j hm; omega
  · intro hj
    rcases a2 R hj with q | q
    · exact h.s4 q
    · have := lt_of_row h.rb; omega
theorem Fdj.end (h : Fdj R P p s O w k q l O' M V wr) (hk : s.length ≤ k) : (fd p s []).2.2 = 0 ∧ Fed R (fd p s []) O V w wr := by
  have hf := h.fdq
  rw [List.take_of_length_le hk] at hf
  rw [hf]
  refine ⟨rfl, ⟨⟨l, fun j => O' j ∨ j = R, M, rfl, h.mat, ⟨⟨P, h.rb, .inl ⟨h.ok, O', h.par, fun j hj => .inl hj, h.s4⟩⟩, .inr rfl, ?_⟩, ?_, h.s2, ?_⟩, h.only⟩⟩
  · intro j hj
    rcases hj with hj | rfl
    · exact h.par.lt j hj
    · exact lt_of_row h.rb
  · intro j hj
    rcases hj with hj | rfl
    · exact h.s1 j hj
    · exact .inl h.inR
  · intro j hj
    rcases hj with hj | rfl
    · exact h.s3 j hj
    · exact h.s5
/-- A message that is whole: it is told, and the parser begins anew. -/
theorem Fdj.done (h : Fdj R P p s O w k q l O' M V wr) (hk : k < s.length) (ht : Tk 47 P (step opM q s[k]) O' wr w2) (he : (step opM q s[k]).2 = 0) (h3 : (step opM q s[k]).1.st = 3)
    {nx hv : Value} (hp : PAt 47 P (step opM q s[k]).1 nx hv w2) {O2 : Nat → Prop} (a2 : ∀ j, O2 j → O' j ∨ wr.heap.size ≤ j) (aP : O2 P) (aH : ∀ j, hv.ownBlock = some j → O2 j)
    {w3 w4 w5 : World} (b3 : Below w2.heap.size w2 w3) {V' : Value} (hV : w4.ownsRow 0 24 4 V' (l.length + 1) (cellsM l ++ [S (step opM q s[k]).1.fs.m, S (step opM q s[k]).1.fs.p, hv, S (step opM q s[k]).1.bd])) (o4 : Only (fun j => V.ownBlock = some j) w3 w4) (n4 : ∀ j, V'.ownBlock = some j → V.ownBlock = some j ∨ w3.heap.size ≤ j)
    {O5 : Nat → Prop} (p5 : Par 47 P p0 O5 w5) (s5 : ∀ j, O5 j → j = P ∨ w4.heap.size ≤ j) (o5 : Only (fun j => j = P) w4 w5) :
    ∃ l' M', Fdj R P p s O w (k + 1) p0 l' O5 M' V' w5 := by
  have hm2 := h.mat2 ht.only
  have hrb2 := h.rb2 ht.only
  have sz := ht.only.size
  have dM : ∀ j, O2 j → ¬ M j := fun j hj hm => by
    rcases a2 j hj with q | q
    · exact h.s3 j q hm
    · have := h.mat.lt j hm; omega
  have dR : ¬ O2 R := fun hj => by
    rcases a2 R hj with q | q
    · exact h.s4 q
    · have := lt_of_row h.rb; omega
  have hvlt : ∀ j, hv.ownBlock = some j → j < w2.heap.size := fun j hj => by
    obtain ⟨cs, q⟩ := owns_lt hp.hrow j hj; exact lt_of_row q
  have hVlt : ∀ j, V.ownBlock = some j → j < w2.heap.size := fun j hj => by
    obtain ⟨cs, q⟩ := owns_lt hm2.row j hj; exact lt_of_row q
  -- through w3, w4, w5
  have hp3 := hp.below b3
  have hPV : ¬ V.ownBlock = some P := fun e => dM P aP (h.mat.inV P e)
  have hp4 := hp3.keep o4 hPV (fun j hj e => dM j (aH j hj) (h.mat.inV j e))
  have hm3 := hm2.keep (Only.of_below (P := fun _ => False) b3) (fun _ _ q => q)
  have hne : ∀ x ∈ l, ∀ j, x.2.ownBlock = some j → ¬ V.ownBlock = some j := fun x hx j hj e => by
    obtain ⟨c1, q1⟩ := owns_lt (hm3.hrow x hx) j hj
    obtain ⟨c2, q2⟩ := owns_lt hm3.row j e
    rw [q1] at q2
    simp at q2
  have hr4 : ∀ x ∈ l, w4.ownsRow 0 35 2 x.2 x.1.hs.length (cellsF x.1.hs) := fun x hx => owns_same (hm3.hrow x hx) (fun j hj => o4.block j (hm3.lt j (hm3.inH x hx j hj)) (hne x hx j hj))
  have hPM : ∀ j, M j → j ≠ P := fun j hj e => dM P aP (by rw [← e]; exact hj)
  have hV5 : w5.ownsRow 0 24 4 V' (l.length + 1) (cellsM l ++ [S (step opM q s[k]).1.fs.m, S (step opM q s[k]).1.fs.p, hv, S (step opM q s[k]).1.bd]) := owns_same hV (fun j hj => by
    obtain ⟨cs, q⟩ := owns_lt hV j hj
    refine o5.block j (lt_of_row q) (fun e => ?_)
    rw [e, hp4.blk] at q
    simp at q)
  have hh5 : w5.ownsRow 0 35 2 hv (step opM q s[k]).1.hs.length (cellsF (step opM q s[k]).1.hs) := owns_same hp4.hrow (fun j hj => by
    obtain ⟨cs, q⟩ := owns_lt hp4.hrow j hj
    refine o5.block j (lt_of_row q) (fun e => ?_)
    rw [e, hp4.blk] at q
    simp at q)
  have hr5 : ∀ x ∈ l, w5.ownsRow 0 35 2 x.2 x.1.hs.length (cellsF x.1.hs) := fun x hx => owns_same (hr4 x hx) (fun j hj => by
    obtain ⟨cs, q⟩ := owns_lt (hr4 x hx) j hj
    exact o5.block j (lt_of_row q) (hPM j (h.mat.inH x hx j hj)))
  have z3 := b3.size
  have z4 := o4.size
  have z5 := o5.size
  have nV4 : ∀ j, V'.ownBlock = some j → j < w4.heap.size := fun j hj => by
    obtain ⟨cs, q⟩ := owns_lt hV j hj; exact lt_of_row q
  have z0 := h.only.size
  refine ⟨l ++ [((step opM q s[k]).1.ms, hv)], fun j => M j ∨ V'.ownBlock = some j ∨ hv.ownBlock = some j, ?_, okP0, p5, ⟨?_, ?_, fun j hj => .inr (.inl hj), ?_, ?_, ?_⟩, ?_, ?_, ?_, ?_, ?_, ?_, ?_, h.inR⟩
  · rw [fd_take hk h.fdq, fd_one, if_neg (by simpa using he), if_pos h3]
    simp
  · rw [List.length_append, cellsM_append]
    exact hV5
  · intro x hx
    rw [List.mem_append] at hx
    rcases hx with hx | hx
    · exact hr5 x hx
    · rw [List.mem_singleton] at hx
      subst hx
      exact hh5
  · intro x hx j hj
    rw [List.mem_append] at hx
    rcases hx with hx | hx
    · exact .inl (h.mat.inH x hx j hj)
    · rw [List.mem_singleton] at hx
      subst hx
      exact .inr (.inr hj)
  · rw [List.pairwise_append]
    refine ⟨h.mat.apart, List.pairwise_singleton _ _, fun x hx y hy j hj e => ?_⟩
    rw [List.mem_singleton] at hy
    subst hy
    exact dM j (aH j e) (h.mat.inH x hx j hj)
  · intro j hj
    rcases hj with hj | hj | hj
    · have := h.mat.lt j hj; omega
    · have := nV4 j hj; omega
    · have := hvlt j hj; omega
  · intro j hj
    rcases s5 j hj with rfl | q
    · rcases a2 _ aP with q | q
      · exact h.s1 _ q
      · exact .inr (by omega)
    · exact .inr (by omega)
  · intro j hj
    rcases hj with hj | hj | hj
    · exact h.s2 j hj
    · rcases n4 j hj with q | q
      · exact h.s2 j (h.mat.inV j q)
      · exact .inr (by omega)
    · rcases a2 j (aH j hj) with q | q
      · exact h.s1 j q
      · exact .inr (by omega)
  · intro j hj hm
    rcases s5 j hj with rfl | q
    · rcases hm with hm | hm | hm
      · exact dM _ aP hm
      · obtain ⟨cs, q⟩ := owns_lt hV _ hm
        rw [hp4.blk] at q
        simp at q
      · exact hp.ne hm
    · rcases hm with hm | hm | hm
      · have := h.mat.lt j hm; omega
      · have := nV4 j hm; omega
      · have := hvlt j hm; omega
  · intro hj
    rcases s5 R hj with e | q
    · exact dR (by rw [e]; exact aP)
    · have := lt_of_row h.rb; omega
  · intro hj
    rcases hj with hj | hj | hj
    · exact h.s5 hj
    · obtain ⟨cs, q⟩ := owns_lt hV R hj
      have e3 := (b3.block R (lt_of_row hrb2)).trans hrb2
      have hRV : ¬ V.ownBlock = some R := fun e => h.s5 (h.mat.inV R e)
      have e4 := (o4.block R (lt_of_row e3) hRV).trans e3
      rw [e4] at q
      simp at q
    · exact dR (aH R hj)
  · have e3 := (b3.block R (lt_of_row hrb2)).trans hrb2
    have hRV : ¬ V.ownBlock = some R := fun e => h.s5 (h.mat.inV R e)
    have e4 := (o4.block R (lt_of_row e3) hRV).trans e3
    refine (o5.block R (lt_of_row e4) (fun e => ?_)).trans e4
    exact dR (by rw [e]; exact aP)
  · refine (((h.on ht.only).trans (Only.of_below (P := fun _ => False) b3) (fun _ _ q => q.elim)).trans o4 (fun j hj e => ?_)).trans o5 (fun j hj e => ?_)
    · rcases h.s2 j (h.mat.inV j e) with q | q
      · exact q
      · omega
    · rw [e] at hj ⊢
      rcases a2 P aP with q | q
      · rcases h.s1 P q with r | r
        · exact r
        · omega
      · omega
set_option maxHeartbeats 8000000 in
set_option maxRecDepth 8000 in
theorem feed_over {R : Nat} {O : Nat → Prop} {w : World} (h : Rdr R pov O w) (s : Bs) :
    Calls Tryz.prog 21 #[ptr R, S s] w fun e w' => e = .returned (.tuple #[.slice none 0 0, .int .i64 54]) ∧ w' = w := by
  obtain ⟨⟨P, h1, h2⟩, h3, h4⟩ := h
  have c0 : w.cell? ⟨R, 0, none⟩ = some (ptr P) := cell_of_row w R 0 _ 84 (0, 0) h1
  have c3 : w.cell? ⟨P, 0, none⟩ = some (.int .i64 4) := by
    rcases h2 with ⟨q, _⟩ | ⟨_, q, _⟩
    · have := q.1; simp [pov] at this
    · exact cell_of_row w P 0 _ 91 (0, 0) q
  clear h1 h2 h3 h4
  go_enter Tryz.func21, Tryz.ntmps21
  go_wp2
  go_ret2
  exact ⟨rfl, rfl⟩
end Go.Proofs.YthlacailhfhjnaaGreatDoor
