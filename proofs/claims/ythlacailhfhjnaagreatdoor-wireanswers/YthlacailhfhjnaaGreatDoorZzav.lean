import Derived.Test.YthlacailhfhjnaaGreatDoorZzap
import Derived.Test.YthlacailhfhjnaaGreatDoorZzau
import Derived.Laws.EntriesVeiled
namespace Go.Proofs.YthlacailhfhjnaaGreatDoor
open Go.RowKit Go.Lib
/-- What enterBody leaves. -/
structure Ent (op P : Nat) (p' : Ps) (nx hv : Value) (w w' : World) : Prop where
  at_ : ∃ nx', PAt op P p' nx' hv w' ∧ (p'.st ≠ 2 → nx' = nx) ∧ (p'.st = 2 → ∃ L Q Z v, nx' = nxt 2 L Q Z ∧ LAt P p' L Q Z v w' ∧ w.heap.size ≤ L ∧ w.heap.size ≤ Q ∧ w.heap.size ≤ Z ∧ ∀ k, v.ownBlock = some k → w.heap.size ≤ k)
  only : Only (fun k => k = P) w w'
set_option maxHeartbeats 4000000 in
set_option maxRecDepth 8000 in
theorem enterBody_any {op P : Nat} {p : Ps} {nx hv : Value} {w : World} (h : PAt op P p nx hv w) (hst : p.st = 1) (hb : p.bd = []) (hlen : p.len ≤ 4000) :
    Calls Tryz.prog 115 #[ptr P] w fun e w' => e = .returned (.tuple #[]) ∧ Ent op P (jEnd p) nx hv w w' := by
  have c8 : w.cell? ⟨P, 8, none⟩ = some (.int .i64 p.len) := h.cell 8
  have c0 : w.cell? ⟨P, 0, none⟩ = some (.int .i64 p.st) := h.cell 0
  have cz : ∀ j, w.frozen? ⟨P, j, none⟩ = false := h.fz
  have hlt := h.lt
  have H := hide h
  have HB := hide hb
  clear h hb
  by_cases h1 : p.len ≤ 0
  · have hj : jEnd p = { p with st := 3 } := by unfold jEnd; rw [if_pos h1]
    rw [hj]
    go_enter Tryz.func115, Tryz.ntmps115
    go_wp2
    refine bodyPost_ret (v := .tuple #[]) (by simp [results, Tryz.results115, go_sem]) rfl ⟨rfl, ⟨nx, ?_, fun _ => rfl, fun q => by simp at q⟩, (Only.refl _ _).put _ _ (.inl rfl)⟩
    exact (unhide H).set 0 (.int .i64 3) (op' := op) (nx' := nx) (p' := { p with st := 3 }) (by simp [cellsP, bdv, hst, unhide HB]) rfl
  · have hj : jEnd p = { p with st := 2 } := by unfold jEnd; rw [if_neg h1]
    rw [hj]
    obtain ⟨n, hn⟩ : ∃ n : Nat, p.len = (n : Int) := ⟨p.len.toNat, by omega⟩
    have hn4 : n ≤ 4000 := by omega
    have HA := hide ((unhide H).set 0 (.int .i64 2) (op' := op) (nx' := nx) (p' := { p with st := 2 }) (by simp [cellsP, bdv, hst]) rfl)
    have HO := hide ((Only.refl (fun k => k = P) w).put ⟨P, 0, none⟩ (.int .i64 2) (.inl rfl))
    have HR := hide (fun W => rest_any P n W hn4)
    have HN := hide hn
    rw [hn] at c8
    have h1' : ¬ (n : Int) ≤ 0 := by omega
    clear h1 hn
    go_enter Tryz.func115, Tryz.ntmps115
    go_wp2_with fail
    have hsz0 : w.heap.size ≤ (w.setCell ⟨P, 0, none⟩ (.int .i64 2)).heap.size := (unhide HO).size
    generalize w.setCell ⟨P, 0, none⟩ (.int .i64 2) = W1 at *
    refine (unhide HR W1).mono ?_
    rintro e w2 ⟨L, Q, Z, v, rfl, hL, hQ, hZ, hrow, l1, l2, l3, l4, b2⟩
    have HA2 := hide ((unhide HA).below b2)
    have HO2 := hide ((unhide HO).trans (Only.of_below (P := fun k => k = P) b2) (fun _ _ q => q))
    have d1 : w2.cell? ⟨P, 1, none⟩ = some nx := (unhide HA2).cell 1
    have dz : ∀ j, w2.frozen? ⟨P, j, none⟩ = false := (unhide HA2).fz
    have hlt2 := (unhide HA2).lt
    have HL := hide (show LAt P { p with st := 2 } L Q Z v w2 from ⟨hL, hQ, fun _ => by rw [hZ]; simp [unhide HN], by simpa [cur, unhide HB] using hrow⟩)
    have HPL : P ≠ L := fun e => by have := (unhide HA2).blk; rw [e, hL] at this; simp at this
    have HPQ : P ≠ Q := fun e => by have := (unhide HA2).blk; rw [e, hQ] at this; simp at this
    have HPZ : P ≠ Z := fun e => by have := (unhide HA2).blk; rw [e, hZ] at this; simp at this
    have HPv := hide (fun (k : Nat) (hk : v.ownBlock = some k) (e : k = P) => (by
      obtain ⟨cs, q⟩ := owns_lt hrow k hk
      have := (unhide HA2).blk
      rw [← e, q] at this
      simp at this : False))
    have HF := hide (And.intro l1 (And.intro l2 (And.intro l3 l4)))
    clear hL hQ hZ hrow b2 HA HO HR l1 l2 l3 l4
    simp only [nxt]
    go_wp2
    go_end0
    refine ⟨rfl, ⟨nxt 2 L Q Z, ?_, fun q => absurd rfl q, fun _ => ⟨L, Q, Z, v, rfl, ?_, Nat.le_trans hsz0 (unhide HF).1, Nat.le_trans hsz0 (unhide HF).2.1, Nat.le_trans hsz0 (unhide HF).2.2.1, fun k hk => Nat.le_trans hsz0 ((unhide HF).2.2.2 k hk)⟩⟩, (unhide HO2).put _ _ (.inl rfl)⟩
    · exact (unhide HA2).set 1 (nxt 2 L Q Z) (op' := op) (nx' := nxt 2 L Q Z) (p' := { p with st := 2 }) rfl rfl
    · exact (unhide HL).keep (Only.setCell w2 ⟨P, 1, none⟩ _) (fun e => HPL e.symm) (fun e => HPQ e.symm) (fun e => HPZ e.symm) (fun k hk e => unhide HPv k hk e)
end Go.Proofs.YthlacailhfhjnaaGreatDoor
namespace Go.Proofs.YthlacailhfhjnaaGreatDoor
open Go.RowKit Go.Lib
def OP (P : Nat) (hv : Value) : Nat → Prop := fun k => k = P ∨ hv.ownBlock = some k
/-- What judgeHeader leaves. -/
structure Hed (op P : Nat) (p' : Ps) (nx hv : Value) (w w' : World) : Prop where
  at_ : ∃ hv', PAt op P p' nx hv' w' ∧ ∀ k, hv'.ownBlock = some k → hv.ownBlock = some k ∨ w.heap.size ≤ k
  only : Only (OP P hv) w w'
theorem PAt.drewN {op P : Nat} {p : Ps} {nx hv : Value} {w : World} (h : PAt op P p nx hv w) (n : Nat) : PAt op P p nx hv (w.drewN n) := h.below (below_dN (Below.refl _ _) n)
theorem Hed.same {op P : Nat} {p : Ps} {nx hv : Value} {w w' : World} (h : PAt op P p nx hv w') (ho : Only (OP P hv) w w') : Hed op P p nx hv w w' := ⟨⟨hv, h, fun _ q => .inl q⟩, ho⟩
theorem trimB_le (l : Bs) : (trimB l 32).length ≤ l.length := by
  unfold trimB trimLeftB trimRightB
  have h1 := List.Sublist.length_le (List.dropWhile_sublist (fun x : UInt8 => x == 32) (l := (List.dropWhile (fun x => x == 32) l.reverse).reverse))
  have h2 := List.Sublist.length_le (List.dropWhile_sublist (fun x : UInt8 => x == 32) (l := l.reverse))
  rw [List.length_reverse] at h1 h2
  omega
set_option maxHeartbeats 8000000 in
set_option maxRecDepth 8000 in
theorem judgeHeader_any {op B P : Nat} {p : Ps} {nx hv : Value} {w : World} (h : PAt op P p nx hv w) (hE : Env B w) (l : Bs) (r : Bool) (hl : l.length ≤ 1000000) (hh : p.hs.length ≤ 32) :
    Calls Tryz.prog 116 #[ptr P, S l, .bool r] w fun e w' => e = .returned (.int .i64 (jHdr p l r).2) ∧ Hed op P (jr (jHdr p l r) p) nx hv w w' := by
  have g1 := hd_le 58 l
  have g2 := tl_le 58 l
  have g3 := trimB_le (tl 58 l)
  have HJ : Hid (jHdr p l r = if !r || !decide ((hd 58 l).length < l.length) || !hnm (hd 58 l) || !(tl 58 l).all shn || alk (hd 58 l) TE then (pov, 51)
    else if alk (hd 58 l) CL then jLen p (trimB (tl 58 l) 32)
    else if p.hs.length = 32 then (pov, 53) else ({ p with hs := p.hs ++ [(hd 58 l, trimB (tl 58 l) 32)] }, 0)) := hide rfl
  have HC := hide (fun W => cut_any l 58 W (by omega))
  have HN := hide (fun W => isHeaderName_any (hd 58 l) W (by omega))
  have HA := hide (fun W => all96_any (tl 58 l) W (by omega))
  have HT := hide (fun W => alike_any (hd 58 l) TE W (by omega))
  have HL := hide (fun W => alike_any (hd 58 l) CL W (by omega))
  have HM := hide (fun W => trim_any (tl 58 l) W (by omega))
  have HE := hide hE
  have hlt := h.lt
  have H := hide h
  have hV : (trimB (tl 58 l) 32).length ≤ 1000000 := by omega
  generalize jHdr p l r = J at *
  generalize decide ((hd 58 l).length < l.length) = D at *
  generalize hnm (hd 58 l) = A1 at *
  generalize alk (hd 58 l) TE = A3 at *
  generalize alk (hd 58 l) CL = A4 at *
  generalize hd 58 l = M at *
  generalize trimB (tl 58 l) 32 = V at *
  generalize (tl 58 l).all shn = A2 at *
  generalize tl 58 l = T at *
  clear g1 g2 g3 h hE
  by_cases hbad : (!r || !D || !A1 || !A2 || A3) = true
  · rw [hbad] at HJ
    have hJ : J = (pov, 51) := by rw [unhide HJ]; rfl
    subst hJ
    clear HJ
    go_enter Tryz.func116, Tryz.ntmps116
    go_wp2_with fail
    refine (unhide HC w).mono ?_
    rintro e w1 ⟨rfl, q1, rfl⟩
    have HP1 := hide ((unhide H).drewN q1)
    have HO1 := hide (Only.drewN (OP P hv) w q1)
    generalize w.drewN q1 = W1 at *
    cases r
    · go_wp2
      go_ret
      exact ⟨rfl, Hed.same (unhide HP1) (unhide HO1)⟩
    cases D
    · go_wp2
      go_ret
      exact ⟨rfl, Hed.same (unhide HP1) (unhide HO1)⟩
    cases A1
    · go_wp2_with (first | (go_at_call 104; refine (unhide HN _).mono ?_; rintro e w' ⟨rfl, hw⟩; rw [hw]; clear hw w') | (go_at_call 86; refine (unhide HA _).mono ?_; rintro e w' ⟨rfl, hw⟩; rw [hw]; clear hw w'))
      go_ret
      exact ⟨rfl, Hed.same (unhide HP1) (unhide HO1)⟩
    cases A2
    · go_wp2_with (first | (go_at_call 104; refine (unhide HN _).mono ?_; rintro e w' ⟨rfl, hw⟩; rw [hw]; clear hw w') | (go_at_call 86; refine (unhide HA _).mono ?_; rintro e w' ⟨rfl, hw⟩; rw [hw]; clear hw w'))
      go_ret
      exact ⟨rfl, Hed.same (unhide HP1) (unhide HO1)⟩
    cases A3
    · simp at hbad
    · go_wp2_with (first | (go_at_call 104; refine (unhide HN _).mono ?_; rintro e w' ⟨rfl, hw⟩; rw [hw]; clear hw w') | (go_at_call 86; refine (unhide HA _).mono ?_; rintro e w' ⟨rfl, hw⟩; rw [hw]; clear hw w'))
      refine (unhide HT _).mono ?_
      rintro e w2 ⟨rfl, q2, rfl⟩
      have HP2 := hide ((unhide HP1).drewN q2)
      have HO2 := hide ((unhide HO1).trans (Only.drewN (OP P hv) W1 q2) (fun _ _ q => q))
      generalize W1.drewN q2 = W2 at *
      go_wp2
      go_ret
      exact ⟨rfl, Hed.same (unhide HP2) (unhide HO2)⟩
  · have hb2 : (!r || !D || !A1 || !A2 || A3) = false := by simpa using hbad
    rw [hb2] at HJ
    simp only [Bool.or_eq_false_iff, Bool.not_eq_false'] at hb2
    obtain ⟨⟨⟨⟨rfl, rfl⟩, rfl⟩, rfl⟩, rfl⟩ := hb2
    clear hbad
    go_enter Tryz.func116, Tryz.ntmps116
    go_wp2_with fail
    refine (unhide HC w).mono ?_
    rintro e w1 ⟨rfl, q1, rfl⟩
    have HE1 := hide ((unhide HE).below (below_dN (Below.refl _ w) q1))
    have HP1 := hide ((unhide H).drewN q1)
    have HO1 := hide (Only.drewN (OP P hv) w q1)
    generalize w.drewN q1 = W1 at *
    go_wp2_with (first | (go_at_call 104; refine (unhide HN _).mono ?_; rintro e w' ⟨rfl, hw⟩; rw [hw]; clear hw w') | (go_at_call 86; refine (unhide HA _).mono ?_; rintro e w' ⟨rfl, hw⟩; rw [hw]; clear hw w'))
    refine (unhide HT _).mono ?_
    rintro e w2 ⟨rfl, q2, rfl⟩
    have HE2 := hide ((unhide HE1).below (below_dN (Below.refl _ W1) q2))
    have HP2 := hide ((unhide HP1).drewN q2)
    have HO2 := hide ((unhide HO1).trans (Only.drewN (OP P hv) W1 q2) (fun _ _ q => q))
    generalize W1.drewN q2 = W2 at *
    go_wp2_with fail
    refine (unhide HM W2).mono ?_
    rintro e w2 ⟨rfl, q3, rfl⟩
    have HE3 := hide ((unhide HE2).below (below_dN (Below.refl _ W2) q3))
    have HP3 := hide ((unhide HP2).drewN q3)
    have HO3 := hide ((unhide HO2).trans (Only.drewN (OP P hv) W2 q3) (fun _ _ q => q))
    generalize W2.drewN q3 = W3 at *
    go_wp2_with fail
    refine (unhide HL W3).mono ?_
    rintro e w2 ⟨rfl, q4, rfl⟩
    have HE4 := hide ((unhide HE3).below (below_dN (Below.refl _ W3) q4))
    have HP4 := hide ((unhide HP3).drewN q4)
    have HO4 := hide ((unhide HO3).trans (Only.drewN (OP P hv) W3 q4) (fun _ _ q => q))
    generalize W3.drewN q4 = W4 at *
    clear HP1 HO1 HP2 HO2 HP3 HO3 HC HN HA HT HL HM
    clear HE1 HE2 HE3 HE
    cases A4
    · by_cases h32 : p.hs.length = 32
      · have hJ : J = (pov, 53) := by rw [unhide HJ, if_neg (by simp), if_neg (by simp), if_pos h32]
        subst hJ
        clear HJ
        obtain ⟨pa, ca, hhv⟩ := owns_form (unhide HP4).hrow
        have d7 : W4.cell? ⟨P, 7, none⟩ = some (.slice pa 32 ca) := by rw [← h32, ← hhv]; exact (unhide HP4).cell 7
        clear hhv h32
        go_wp2
        go_ret
        exact ⟨rfl, Hed.same (unhide HP4) (unhide HO4)⟩
      · have hJ : J = ({ p with hs := p.hs ++ [(M, V)] }, 0) := by rw [unhide HJ, if_neg (by simp), if_neg (by simp), if_neg h32]
        subst hJ
        clear HJ
        obtain ⟨pa, ca, hhv⟩ := owns_form (unhide HP4).hrow
        have HHV := hide hhv
        have d7 : W4.cell? ⟨P, 7, none⟩ = some (.slice pa p.hs.length ca) := by rw [← hhv]; exact (unhide HP4).cell 7
        have HR := hide (by have := (unhide HP4).hrow; rw [hhv] at this; exact this)
        have i32 : ¬ (p.hs.length : Int) = 32 := by omega
        have hz4 : ∀ j, W4.frozen? ⟨P, j, none⟩ = false := (unhide HP4).fz
        have hlt4 := (unhide HP4).lt
        have HNE : ¬ (Value.slice pa p.hs.length ca).ownBlock = some P := by rw [← hhv]; exact (unhide HP4).ne
        have HB4 := hide (unhide HP4).blk
        clear hhv
        go_wp2_with (first | (at_builtin; refine push_own 22 35 _ 2 32 Tryz.underlying22 info35 rfl (by decide) rfl (.tmp 54) (.tmp 58) rfl (.slice pa p.hs.length ca) p.hs.length (cellsF p.hs) (by rfl) W4 (unhide HR) [S M, S V] (by rfl) (by intro u hu; simp at hu; rcases hu with rfl | rfl <;> rfl) (by rfl) (by omega) (by omega) ?_; intro pb cb W5 ho5 hw5 hn5; have hb5 := (hw5.block P hlt4 HNE).trans (unhide HB4); have c57 := (cell_of_row W5 P 7 _ 91 (0, 0) hb5); have z57 := (frozen_of_row W5 P 7 _ 91 hb5); have e57 : W5.cell? ⟨P, 7, none⟩ = some hv := c57; clear c57))
        go_ret
        have hne5 : ∀ k, (Value.slice pb (p.hs.length + 1) cb).ownBlock = some k → k ≠ P := fun k hk e => by
          obtain ⟨cs, q⟩ := owns_lt ho5 k hk
          rw [e, hb5] at q
          simp at q
        refine ⟨rfl, ⟨⟨.slice pb (p.hs.length + 1) cb, ⟨?_, ?_⟩, ?_⟩, ?_⟩⟩
        · rw [heap_setCell_same W5 P 7 _ 91 _ hb5]
          rfl
        · have e : (jr ({ p with hs := p.hs ++ [(M, V)] }, 0) p).hs = p.hs ++ [(M, V)] := rfl
          rw [e, cellsF_append, List.length_append]
          exact owns_same ho5 (fun k hk => heap_setCell_other W5 ⟨P, 7, none⟩ k _ (hne5 k hk))
        · intro k hk
          rw [unhide HHV]
          rcases hn5 k hk with q | q
          · exact .inl q
          · exact .inr (Nat.le_trans (unhide HO4).size q)
        · refine ((unhide HO4).trans hw5 (fun k _ q => .inr ?_)).put _ _ (.inl (.inl rfl))
          rw [unhide HHV]
          exact q
    · have HJL := hide (judgeLength_any (unhide HP4) (unhide HE4) V hV)
      have hJ : jLen p V = J := by rw [unhide HJ, if_neg (by simp), if_pos rfl]
      rw [hJ] at HJL
      clear HJ hJ
      go_wp2_with fail
      refine (unhide HJL).mono ?_
      rintro e w5 ⟨rfl, hp5, ho5⟩
      have HP5 := hide hp5
      have HO5 := hide ((unhide HO4).trans ho5 (fun _ _ q => .inl q))
      clear hp5 ho5
      go_wp2
      go_ret
      exact ⟨rfl, Hed.same (unhide HP5) (unhide HO5)⟩
end Go.Proofs.YthlacailhfhjnaaGreatDoor
namespace Go.Proofs.YthlacailhfhjnaaGreatDoor
open Go.RowKit Go.Lib
/-- What judge leaves. -/
structure Jud (op P : Nat) (p' : Ps) (nx hv : Value) (w w' : World) : Prop where
  at_ : ∃ nx' hv', PAt op P p' nx' hv' w' ∧ (∀ k, hv'.ownBlock = some k → hv.ownBlock = some k ∨ w.heap.size ≤ k) ∧ (p'.st ≠ 2 → nx' = nx) ∧ (p'.st = 2 → ∃ L Q Z v, nx' = nxt 2 L Q Z ∧ LAt P p' L Q Z v w' ∧ w.heap.size ≤ L ∧ w.heap.size ≤ Q ∧ w.heap.size ≤ Z ∧ ∀ k, v.ownBlock = some k → w.heap.size ≤ k)
  only : Only (OP P hv) w w'
set_option maxHeartbeats 8000000 in
set_option maxRecDepth 8000 in
theorem judge47_any {B P : Nat} {p : Ps} {nx hv : Value} {w : World} (h : PAt 47 P p nx hv w) (hE : Env B w) (s : Bs) (hl : s.length ≤ 10000) (hst : p.st ≤ 1) (hb : p.bd = []) (hlen : p.len ≤ 4000) (hh : p.hs.length ≤ 32) :
    Calls Tryz.prog 100 #[ptr P, S s] w fun e w' => e = .returned (.int .i64 (judge opM p s).2) ∧ Jud 47 P (jr (judge opM p s) p) nx hv w w' := by
  have hcl : (cutr s).length ≤ s.length := by unfold cutr; split <;> simp
  have HC := hide (cutr_any s w (by omega))
  have c0 : w.cell? ⟨P, 0, none⟩ = some (.int .i64 p.st) := h.cell 0
  have hlt := h.lt
  have H := hide h
  have HJ : Hid (judge opM p s = if p.st = 0 then jFst opM p (cutr s) (ret s) else if ret s && cutr s == [] then (jEnd p, 0) else jHdr p (cutr s) (ret s)) := hide rfl
  by_cases h0 : p.st = 0
  · have HF := hide (judgeFirst47_any h hE (cutr s) (ret s) (by omega) h0)
    have hJ : jFst opM p (cutr s) (ret s) = judge opM p s := by rw [unhide HJ, if_pos h0]
    rw [hJ] at HF
    have HS := hide (show (jr (judge opM p s) p).st ≠ 2 by
      rw [← hJ]
      unfold jr
      split
      · rename_i q
        unfold jFst at q ⊢
        split
        · rename_i q2; rw [q2] at q; simp at q
        · rename_i q2
          rw [q2] at q
          split
          · simp
          · rename_i q3; simp [q3] at q
      · omega)
    rw [h0] at c0
    clear HJ hJ h hE h0 hb
    generalize judge opM p s = J at *
    generalize cutr s = C at *
    generalize ret s = R at *
    go_enter Tryz.func100, Tryz.ntmps100
    go_wp2_with fail
    refine (unhide HC).mono ?_
    rintro e w1 ⟨rfl, hw⟩
    rw [hw]
    clear hw w1 HC
    go_wp2_with fail
    refine (unhide HF).mono ?_
    rintro e w1 ⟨rfl, hp1, ho1⟩
    have HP1 := hide hp1
    have HO1 := hide (ho1.mono (Q := OP P hv) (fun _ _ q => .inl q))
    clear hp1 ho1
    go_wp2
    go_ret
    exact ⟨rfl, ⟨⟨nx, hv, unhide HP1, fun _ q => .inl q, fun _ => rfl, fun q => absurd q (unhide HS)⟩, unhide HO1⟩⟩
  · have h1 : p.st = 1 := by omega
    rw [h1] at c0
    by_cases he : (ret s && cutr s == []) = true
    · have hJ : judge opM p s = (jEnd p, 0) := by rw [unhide HJ, if_neg h0, if_pos he]
      have HF := hide (enterBody_any h h1 hb hlen)
      simp only [Bool.and_eq_true, beq_iff_eq] at he
      rw [hJ]
      rw [he.1, he.2] at HC
      clear HJ hJ h hE h0 hb he
      go_enter Tryz.func100, Tryz.ntmps100
      go_wp2_with fail
      refine (unhide HC).mono ?_
      rintro e w1 ⟨rfl, hw⟩
      rw [hw]
      clear hw w1 HC
      go_wp2_with fail
      refine (unhide HF).mono ?_
      rintro e w1 ⟨rfl, hp1⟩
      have HP1 := hide hp1
      clear hp1
      go_wp2
      go_ret
      obtain ⟨⟨nx', a1, a2, a3⟩, a4⟩ := unhide HP1
      exact ⟨rfl, ⟨⟨nx', hv, a1, fun _ q => .inl q, a2, a3⟩, a4.mono (fun _ _ q => .inl q)⟩⟩
    · have hJ : jHdr p (cutr s) (ret s) = judge opM p s := by rw [unhide HJ, if_neg h0, if_neg he]
      have HF := hide (judgeHeader_any h hE (cutr s) (ret s) (by omega) hh)
      rw [hJ] at HF
      have HS := hide (show (jr (judge opM p s) p).st ≠ 2 by
        rw [← hJ]
        unfold jr
        split
        · rename_i q; rw [(jHdr_rd p _ _ q).2.1]; omega
        · omega)
      have hee : (ret s && cutr s == []) = false := by simpa using he
      clear HJ hJ h hE h0 hb he
      generalize judge opM p s = J at *
      generalize hC : cutr s = C at *
      generalize ret s = R at *
      clear hC
      cases R
      · go_enter Tryz.func100, Tryz.ntmps100
        go_wp2_with fail
        refine (unhide HC).mono ?_
        rintro e w1 ⟨rfl, hw⟩
        rw [hw]
        clear hw w1 HC
        go_wp2_with fail
        refine (unhide HF).mono ?_
        rintro e w1 ⟨rfl, hp1⟩
        have HP1 := hide hp1
        clear hp1
        go_wp2
        go_ret
        obtain ⟨⟨hv', a1, a2⟩, a4⟩ := unhide HP1
        exact ⟨rfl, ⟨⟨nx, hv', a1, a2, fun _ => rfl, fun q => absurd q (unhide HS)⟩, a4⟩⟩
      · have hC2 : (C == []) = false := by simpa using hee
        go_enter Tryz.func100, Tryz.ntmps100
        go_wp2_with fail
        refine (unhide HC).mono ?_
        rintro e w1 ⟨rfl, hw⟩
        rw [hw]
        clear hw w1 HC
        go_wp2_with fail
        refine (unhide HF).mono ?_
        rintro e w1 ⟨rfl, hp1⟩
        have HP1 := hide hp1
        clear hp1
        go_wp2
        go_ret
        obtain ⟨⟨hv', a1, a2⟩, a4⟩ := unhide HP1
        exact ⟨rfl, ⟨⟨nx, hv', a1, a2, fun _ => rfl, fun q => absurd q (unhide HS)⟩, a4⟩⟩
set_option maxHeartbeats 8000000 in
set_option maxRecDepth 8000 in
theorem judge69_any {B P : Nat} {p : Ps} {nx hv : Value} {w : World} (h : PAt 69 P p nx hv w) (hE : Env B w) (s : Bs) (hl : s.length ≤ 10000) (hst : p.st ≤ 1) (hb : p.bd = []) (hlen : p.len ≤ 4000) (hh : p.hs.length ≤ 32) :
    Calls Tryz.prog 100 #[ptr P, S s] w fun e w' => e = .returned (.int .i64 (judge opA p s).2) ∧ Jud 69 P (jr (judge opA p s) p) nx hv w w' := by
  have hcl : (cutr s).length ≤ s.length := by unfold cutr; split <;> simp
  have HC := hide (cutr_any s w (by omega))
  have c0 : w.cell? ⟨P, 0, none⟩ = some (.int .i64 p.st) := h.cell 0
  have hlt := h.lt
  have H := hide h
  have HJ : Hid (judge opA p s = if p.st = 0 then jFst opA p (cutr s) (ret s) else if ret s && cutr s == [] then (jEnd p, 0) else jHdr p (cutr s) (ret s)) := hide rfl
  by_cases h0 : p.st = 0
  · have HF := hide (judgeFirst69_any h hE (cutr s) (ret s) (by omega) h0)
    have hJ : jFst opA p (cutr s) (ret s) = judge opA p s := by rw [unhide HJ, if_pos h0]
    rw [hJ] at HF
    have HS := hide (show (jr (judge opA p s) p).st ≠ 2 by
      rw [← hJ]
      unfold jr
      split
      · rename_i q
        unfold jFst at q ⊢
        split
        · rename_i q2; rw [q2] at q; simp at q
        · rename_i q2
          rw [q2] at q
          split
          · simp
          · rename_i q3; simp [q3] at q
      · omega)
    rw [h0] at c0
    clear HJ hJ h hE h0 hb
    generalize judge opA p s = J at *
    generalize cutr s = C at *
    generalize ret s = R at *
    go_enter Tryz.func100, Tryz.ntmps100
    go_wp2_with fail
    refine (unhide HC).mono ?_
    rintro e w1 ⟨rfl, hw⟩
    rw [hw]
    clear hw w1 HC
    go_wp2_with fail
    refine (unhide HF).mono ?_
    rintro e w1 ⟨rfl, hp1, ho1⟩
    have HP1 := hide hp1
    have HO1 := hide (ho1.mono (Q := OP P hv) (fun _ _ q => .inl q))
    clear hp1 ho1
    go_wp2
    go_ret
    exact ⟨rfl, ⟨⟨nx, hv, unhide HP1, fun _ q => .inl q, fun _ => rfl, fun q => absurd q (unhide HS)⟩, unhide HO1⟩⟩
  · have h1 : p.st = 1 := by omega
    rw [h1] at c0
    by_cases he : (ret s && cutr s == []) = true
    · have hJ : judge opA p s = (jEnd p, 0) := by rw [unhide HJ, if_neg h0, if_pos he]
      have HF := hide (enterBody_any h h1 hb hlen)
      simp only [Bool.and_eq_true, beq_iff_eq] at he
      rw [hJ]
      rw [he.1, he.2] at HC
      clear HJ hJ h hE h0 hb he
      go_enter Tryz.func100, Tryz.ntmps100
      go_wp2_with fail
      refine (unhide HC).mono ?_
      rintro e w1 ⟨rfl, hw⟩
      rw [hw]
      clear hw w1 HC
      go_wp2_with fail
      refine (unhide HF).mono ?_
      rintro e w1 ⟨rfl, hp1⟩
      have HP1 := hide hp1
      clear hp1
      go_wp2
      go_ret
      obtain ⟨⟨nx', a1, a2, a3⟩, a4⟩ := unhide HP1
      exact ⟨rfl, ⟨⟨nx', hv, a1, fun _ q => .inl q, a2, a3⟩, a4.mono (fun _ _ q => .inl q)⟩⟩
    · have hJ : jHdr p (cutr s) (ret s) = judge opA p s := by rw [unhide HJ, if_neg h0, if_neg he]
      have HF := hide (judgeHeader_any h hE (cutr s) (ret s) (by omega) hh)
      rw [hJ] at HF
      have HS := hide (show (jr (judge opA p s) p).st ≠ 2 by
        rw [← hJ]
        unfold jr
        split
        · rename_i q; rw [(jHdr_rd p _ _ q).2.1]; omega
        · omega)
      have hee : (ret s && cutr s == []) = false := by simpa using he
      clear HJ hJ h hE h0 hb he
      generalize judge opA p s = J at *
      generalize hC : cutr s = C at *
      generalize ret s = R at *
      clear hC
      cases R
      · go_enter Tryz.func100, Tryz.ntmps100
        go_wp2_with fail
        refine (unhide HC).mono ?_
        rintro e w1 ⟨rfl, hw⟩
        rw [hw]
        clear hw w1 HC
        go_wp2_with fail
        refine (unhide HF).mono ?_
        rintro e w1 ⟨rfl, hp1⟩
        have HP1 := hide hp1
        clear hp1
        go_wp2
        go_ret
        obtain ⟨⟨hv', a1, a2⟩, a4⟩ := unhide HP1
        exact ⟨rfl, ⟨⟨nx, hv', a1, a2, fun _ => rfl, fun q => absurd q (unhide HS)⟩, a4⟩⟩
      · have hC2 : (C == []) = false := by simpa using hee
        go_enter Tryz.func100, Tryz.ntmps100
        go_wp2_with fail
        refine (unhide HC).mono ?_
        rintro e w1 ⟨rfl, hw⟩
        rw [hw]
        clear hw w1 HC
        go_wp2_with fail
        refine (unhide HF).mono ?_
        rintro e w1 ⟨rfl, hp1⟩
        have HP1 := hide hp1
        clear hp1
        go_wp2
        go_ret
        obtain ⟨⟨hv', a1, a2⟩, a4⟩ := unhide HP1
        exact ⟨rfl, ⟨⟨nx, hv', a1, a2, fun _ => rfl, fun q => absurd q (unhide HS)⟩, a4⟩⟩
end Go.Proofs.YthlacailhfhjnaaGreatDoor
