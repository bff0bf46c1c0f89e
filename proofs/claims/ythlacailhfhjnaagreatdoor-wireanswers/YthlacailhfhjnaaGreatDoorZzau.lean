import Derived.Test.YthlacailhfhjnaaGreatDoorZzat
import Derived.BigQuiet
import Derived.Test.YthlacailhfhjnaaGreatDoorZzai
namespace Go.Proofs.YthlacailhfhjnaaGreatDoor
open Go.RowKit Go.Lib
set_option maxHeartbeats 4000000 in
set_option maxRecDepth 8000 in
theorem rReason_any (n : Int) (w : World) : Calls Tryz.prog 59 #[.int .i64 n] w fun e w' => e = .returned (S (rsn n)) ∧ w' = w := by
  by_cases h0 : n = 200
  · subst h0
    go_enter Tryz.func59, Tryz.ntmps59
    go_wp2
    go_ret
    exact ⟨rfl, rfl⟩
  by_cases h1 : n = 201
  · subst h1
    go_enter Tryz.func59, Tryz.ntmps59
    go_wp2
    go_ret
    exact ⟨rfl, rfl⟩
  by_cases h2 : n = 400
  · subst h2
    go_enter Tryz.func59, Tryz.ntmps59
    go_wp2
    go_ret
    exact ⟨rfl, rfl⟩
  by_cases h3 : n = 401
  · subst h3
    go_enter Tryz.func59, Tryz.ntmps59
    go_wp2
    go_ret
    exact ⟨rfl, rfl⟩
  by_cases h4 : n = 403
  · subst h4
    go_enter Tryz.func59, Tryz.ntmps59
    go_wp2
    go_ret
    exact ⟨rfl, rfl⟩
  by_cases h5 : n = 404
  · subst h5
    go_enter Tryz.func59, Tryz.ntmps59
    go_wp2
    go_ret
    exact ⟨rfl, rfl⟩
  by_cases h6 : n = 405
  · subst h6
    go_enter Tryz.func59, Tryz.ntmps59
    go_wp2
    go_ret
    exact ⟨rfl, rfl⟩
  by_cases h7 : n = 415
  · subst h7
    go_enter Tryz.func59, Tryz.ntmps59
    go_wp2
    go_ret
    exact ⟨rfl, rfl⟩
  by_cases h8 : n = 429
  · subst h8
    go_enter Tryz.func59, Tryz.ntmps59
    go_wp2
    go_ret
    exact ⟨rfl, rfl⟩
  by_cases h9 : n = 500
  · subst h9
    go_enter Tryz.func59, Tryz.ntmps59
    go_wp2
    go_ret
    exact ⟨rfl, rfl⟩
  by_cases h10 : n = 503
  · subst h10
    go_enter Tryz.func59, Tryz.ntmps59
    go_wp2
    go_ret
    exact ⟨rfl, rfl⟩
  have e : rsn n = [83, 116, 97, 116, 117, 115] := by
    unfold rsn
    rw [if_neg h0, if_neg h1, if_neg h2, if_neg h3, if_neg h4, if_neg h5, if_neg h6, if_neg h7, if_neg h8, if_neg h9, if_neg h10]
  rw [e]
  clear e
  go_enter Tryz.func59, Tryz.ntmps59
  go_wp2
  go_ret
  exact ⟨rfl, rfl⟩
/-- What stands behind a first line. -/
def lad (hs : List Fl) (b : Bs) : Bs := hlns hs ++ (hln (CL, decDigits b.length) ++ ([13, 10] ++ b))
theorem lay_lad (first : Bs) (hs : List Fl) (b : Bs) : lay first hs b = first ++ ([13, 10] ++ lad hs b) := rfl
theorem hlns_next (fs : List Fl) (k : Nat) (h : k < fs.length) : hlns (fs.take (k + 1)) = hlns (fs.take k) ++ hln (fs.getD k fl0) := by
  have e : fs.take (k + 1) = fs.take k ++ [fs.getD k fl0] := by
    rw [List.take_succ_eq_append_getElem h]
    simp [h]
  rw [e]
  simp [hlns]
theorem cat5 (T fn fv : Bs) : (⟨T.toArray⟩ : ByteArray) ++ ⟨fn.toArray⟩ ++ ⟨#[58, 32]⟩ ++ ⟨fv.toArray⟩ ++ ⟨#[13, 10]⟩ = ⟨(T ++ hln (fn, fv)).toArray⟩ := by
  show (⟨T.toArray⟩ : ByteArray) ++ ⟨fn.toArray⟩ ++ ⟨([58, 32] : Bs).toArray⟩ ++ ⟨fv.toArray⟩ ++ ⟨([13, 10] : Bs).toArray⟩ = _
  rw [ba_append, ba_append, ba_append, ba_append]
  simp [hln]
theorem catl (T D b : Bs) : (⟨T.toArray⟩ : ByteArray) ++ ⟨#[67, 111, 110, 116, 101, 110, 116, 45, 76, 101, 110, 103, 116, 104, 58, 32]⟩ ++ ⟨D.toArray⟩ ++ ⟨#[13, 10]⟩ ++ ⟨#[13, 10]⟩ ++ ⟨b.toArray⟩ = ⟨(T ++ (hln (CL, D) ++ ([13, 10] ++ b))).toArray⟩ := by
  show (⟨T.toArray⟩ : ByteArray) ++ ⟨([67, 111, 110, 116, 101, 110, 116, 45, 76, 101, 110, 103, 116, 104, 58, 32] : Bs).toArray⟩ ++ ⟨D.toArray⟩ ++ ⟨([13, 10] : Bs).toArray⟩ ++ ⟨([13, 10] : Bs).toArray⟩ ++ ⟨b.toArray⟩ = _
  rw [ba_append, ba_append, ba_append, ba_append, ba_append]
  simp [hln, CL]
set_option maxHeartbeats 8000000 in
set_option maxRecDepth 8000 in
theorem laid_any (a : Option Addr) (n cap : Nat) (fs : List Fl) (b : Bs) (w : World) (hp : Fls w a n fs) (hf : flw fs b = true) :
    Calls Tryz.prog 60 #[.slice a n cap, S b] w fun e w' => e = .returned (S (lad fs b)) ∧ ∃ q, w' = w.drewN q := by
  obtain ⟨l1, l2, l3⟩ := flw_len hf
  have hn := hp.1
  have HP := hide hp
  have HD := hide (fun W => digits_any b.length W (by omega))
  have hdl := dec_len b.length (by omega)
  clear hp hf
  go_enter Tryz.func60, Tryz.ntmps60
  go_wp2
  go_loopw [5, 6] (fun s i wr => ∃ k : Nat, k ≤ n ∧ i = .int .i64 k ∧ s = S (hlns (fs.take k)) ∧ ∃ q, wr = w.drewN q) (fun _ i _ => n - (Go.RowKit.intOf i).toNat)
  case atStart => exact ⟨0, by omega, rfl, by simp [hlns], 0, rfl⟩
  case round =>
    obtain ⟨k, hk, rfl, rfl, hq⟩ := hrel
    have HQ := hide hq
    have HR : Hid (Fls wr a n fs) := hide (by obtain ⟨Q, rfl⟩ := hq; exact (unhide HP).below (below_dN (Below.refl _ _) Q))
    clear hq
    have hle := hlns_le fs k
    by_cases hlt : k < n
    · obtain ⟨p, o, rfl, hpl, hc0, hc1⟩ := (unhide HR).at hlt
      have hnx := hide (hlns_next fs k (by omega))
      have hle2 := hlns_le fs (k + 1)
      rw [unhide hnx] at hle2
      have hlt' : (k : Int) < (n : Int) := by omega
      generalize fs.getD k fl0 = F at *
      obtain ⟨fn, fv⟩ := F
      simp only at hc0 hc1
      have hF : fn.length + fv.length + 4 = (hln (fn, fv)).length := by simp [hln]; omega
      rw [List.length_append] at hle2
      have hF1 : fn.length ≤ 32064 := by omega
      have hF2 : fv.length ≤ 32064 := by omega
      have HC := hide (cat5 (hlns (fs.take k)) fn fv)
      rw [← unhide hnx] at HC
      generalize hlns (fs.take k) = T at *
      have hT : T.length ≤ 32064 := by omega
      clear hnx hle2 hF
      go_wp2_with fail
      go_quiet (fail)
      rw [unhide HC]
      have HW : Hid (∃ q, wr.drewN nq = w.drewN q) := hide (by obtain ⟨Q, rfl⟩ := unhide HQ; exact ⟨Q + nq, by simp⟩)
      generalize wr.drewN nq = wv at *
      go_wp2
      exact ⟨⟨k + 1, by omega, by go_num, rfl, unhide HW⟩, by simp [Go.RowKit.intOf]; omega⟩
    · have hd : decide ((k : Int) < (n : Int)) = false := by simp; omega
      have hkn : fs.take k = fs := List.take_of_length_le (by omega)
      rw [hkn]
      have HC := hide (catl (hlns fs) (decDigits b.length) b)
      have HL : Hid (lad fs b = hlns fs ++ (hln (CL, decDigits b.length) ++ ([13, 10] ++ b))) := hide rfl
      generalize hlns fs = T at *
      generalize decDigits b.length = D at *
      clear hkn hle
      go_wp2_with fail
      refine (unhide HD _).mono ?_
      rintro e w1 ⟨rfl, hw⟩
      rw [hw]
      clear hw w1 HD
      go_wp2
      go_ret
      refine ⟨?_, unhide HQ⟩
      rw [unhide HC, ← unhide HL]
      rfl
end Go.Proofs.YthlacailhfhjnaaGreatDoor
namespace Go.Proofs.YthlacailhfhjnaaGreatDoor
open Go.RowKit Go.Lib
theorem lad_len {hs : List Fl} {b : Bs} (h : flw hs b = true) : (lad hs b).length ≤ 40000 := by
  obtain ⟨h1, h2, h3⟩ := flw_len h
  have h4 := dec_len b.length (by omega)
  unfold lad hln
  simp [CL]
  omega
theorem catm (m p X : Bs) : (⟨m.toArray⟩ : ByteArray) ++ ⟨#[32]⟩ ++ ⟨p.toArray⟩ ++ ⟨#[32]⟩ ++ ⟨#[72, 84, 84, 80, 47, 49, 46, 49]⟩ ++ ⟨#[13, 10]⟩ ++ ⟨X.toArray⟩ = ⟨(mline m p ++ ([13, 10] ++ X)).toArray⟩ := by
  show (⟨m.toArray⟩ : ByteArray) ++ ⟨([32] : Bs).toArray⟩ ++ ⟨p.toArray⟩ ++ ⟨([32] : Bs).toArray⟩ ++ ⟨([72, 84, 84, 80, 47, 49, 46, 49] : Bs).toArray⟩ ++ ⟨([13, 10] : Bs).toArray⟩ ++ ⟨X.toArray⟩ = _
  rw [ba_append, ba_append, ba_append, ba_append, ba_append, ba_append]
  simp [mline, vers]
set_option maxHeartbeats 8000000 in
set_option maxRecDepth 8000 in
theorem rPrintMessage_any (m : Ms) (a : Option Addr) (n cap : Nat) (w : World) (hp : Fls w a n m.hs) (hL : Lens m.hs) (h1 : m.m.length ≤ 140737488351232) (h2 : m.p.length ≤ 140737488351232) (h3 : m.b.length ≤ 140737488351232) (hn : n ≤ 140737488351232) :
    Calls Tryz.prog 37 #[.agg #[S m.m, S m.p, .slice a n cap, S m.b]] w fun e w' => e = .returned (.tuple #[S (pmsg m).1, .int .i64 (pmsg m).2]) ∧ Below w.heap.size w w' := by
  obtain ⟨mm, mp, mh, mb⟩ := m
  simp only at hp hL h1 h2 h3 ⊢
  have b0 := (Below.refl w.heap.size w).alloc (Nat.le_refl _) (.cells #[S mm, S mp, .slice a n cap, S mb] 24)
  have x0 := heap_alloc_new w (.cells #[S mm, S mp, .slice a n cap, S mb] 24)
  have H1 := hide (rMethod_any mm (w.alloc (.cells #[S mm, S mp, .slice a n cap, S mb] 24)) (by omega))
  have H2 := hide (rPath_any mp (w.alloc (.cells #[S mm, S mp, .slice a n cap, S mb] 24)) (by omega))
  have H3 := hide (rBodied_any a n cap mh mb _ (hp.below b0) hL hn (by omega))
  have HY : Hid (may ⟨mm, mp, mh, mb⟩ = true → pmsg ⟨mm, mp, mh, mb⟩ = (lay (mline mm mp) mh mb, 0)) := hide (fun h => by unfold pmsg; rw [if_pos h])
  have HN : Hid (may ⟨mm, mp, mh, mb⟩ = false → pmsg ⟨mm, mp, mh, mb⟩ = ([], 55)) := hide (fun h => by unfold pmsg; rw [if_neg (by simp [h])])
  have HM : Hid (may ⟨mm, mp, mh, mb⟩ = (meth mm && pth mp && flw mh mb)) := hide rfl
  generalize may ⟨mm, mp, mh, mb⟩ = M at *
  generalize pmsg ⟨mm, mp, mh, mb⟩ = R at *
  have X0 := hide (And.intro b0 (And.intro x0 hp))
  clear b0 x0 hp
  go_enter Tryz.func37, Tryz.ntmps37
  go_wp2_with fail
  refine (unhide H1).mono ?_
  rintro e w1 ⟨rfl, hw⟩
  rw [hw]
  clear hw w1 H1
  go_wp2_with fail
  refine (unhide H2).mono ?_
  rintro e w1 ⟨rfl, hw⟩
  rw [hw]
  clear hw w1 H2
  go_wp2_with fail
  refine (unhide H3).mono ?_
  rintro e w1 ⟨rfl, b1⟩
  have x1 := (b1.block _ (lt_of_row (unhide X0).2.1)).trans (unhide X0).2.1
  have b1' := (unhide X0).1.trans (b1.mono (unhide X0).1.size)
  have X1 := hide (And.intro b1' (And.intro x1 ((unhide X0).2.2.below b1')))
  clear b1 b1' x1 X0 H3
  cases hA : meth mm
  · have HR := hide (unhide HN (by rw [unhide HM, hA]; rfl))
    go_wp2
    go_ret2
    exact ⟨by rw [unhide HR]; rfl, (unhide X1).1⟩
  cases hB : pth mp
  · have HR := hide (unhide HN (by rw [unhide HM, hA, hB]; rfl))
    go_wp2
    go_ret2
    exact ⟨by rw [unhide HR]; rfl, (unhide X1).1⟩
  cases hC : flw mh mb
  · have HR := hide (unhide HN (by rw [unhide HM, hA, hB, hC]; rfl))
    go_wp2
    go_ret2
    exact ⟨by rw [unhide HR]; rfl, (unhide X1).1⟩
  have HR := hide (unhide HY (by rw [unhide HM, hA, hB, hC]; rfl))
  have q1 := meth_len hA
  have q2 := pth_len hB
  have q3 := lad_len hC
  have HC := hide (catm mm mp (lad mh mb))
  rw [lay_lad] at HR
  obtain ⟨b1, x1, f1⟩ := unhide X1
  have B1 := hide (fun k : Nat => Calls.mono (laid_any a n cap mh mb (w1.drewN k) (f1.below (below_dN (Below.refl _ _) k)) hC) (fun e w'' h => (⟨h.1, by obtain ⟨q, hq⟩ := h.2; exact ⟨k + q, by rw [hq]; simp⟩⟩ : e = Ending.returned (S (lad mh mb)) ∧ ∃ n, w'' = w1.drewN n)))
  generalize lad mh mb = LL at *
  have d0 : w1.cell? ⟨w.heap.size, 0, none⟩ = some (S mm) := cell_of_row w1 _ 0 _ 24 (0, 0) x1
  have d1 : w1.cell? ⟨w.heap.size, 1, none⟩ = some (S mp) := cell_of_row w1 _ 1 _ 24 (0, 0) x1
  have d2 : w1.cell? ⟨w.heap.size, 2, none⟩ = some (.slice a n cap) := cell_of_row w1 _ 2 _ 24 (0, 0) x1
  have d3 : w1.cell? ⟨w.heap.size, 3, none⟩ = some (S mb) := cell_of_row w1 _ 3 _ 24 (0, 0) x1
  clear hA hB hC b1 x1 f1 HY HN HM
  go_wp2_with fail
  go_quiet ((go_at_call 60; with_reducible exact unhide B1 _))
  have HZ := hide (below_dN (unhide X1).1 nq)
  generalize w1.drewN nq = wv at *
  rw [unhide HC]
  go_wp2
  go_ret2
  exact ⟨by rw [unhide HR]; rfl, unhide HZ⟩
end Go.Proofs.YthlacailhfhjnaaGreatDoor
namespace Go.Proofs.YthlacailhfhjnaaGreatDoor
open Go.RowKit Go.Lib
theorem cata (D E X : Bs) : (⟨#[72, 84, 84, 80, 47, 49, 46, 49, 32]⟩ : ByteArray) ++ ⟨D.toArray⟩ ++ ⟨#[32]⟩ ++ ⟨E.toArray⟩ ++ ⟨#[13, 10]⟩ ++ ⟨X.toArray⟩ = ⟨(([72, 84, 84, 80, 47, 49, 46, 49, 32] ++ D ++ [32] ++ E) ++ ([13, 10] ++ X)).toArray⟩ := by
  show (⟨([72, 84, 84, 80, 47, 49, 46, 49, 32] : Bs).toArray⟩ : ByteArray) ++ ⟨D.toArray⟩ ++ ⟨([32] : Bs).toArray⟩ ++ ⟨E.toArray⟩ ++ ⟨([13, 10] : Bs).toArray⟩ ++ ⟨X.toArray⟩ = _
  rw [ba_append, ba_append, ba_append, ba_append, ba_append]
  simp
set_option maxHeartbeats 8000000 in
set_option maxRecDepth 8000 in
theorem rPrintAnswer_any (st : Int) (mh : List Fl) (mb : Bs) (a : Option Addr) (n cap : Nat) (w : World) (hp : Fls w a n mh) (hL : Lens mh) (h3 : mb.length ≤ 140737488351232) (hn : n ≤ 140737488351232) :
    Calls Tryz.prog 28 #[.agg #[.int .i64 st, .slice a n cap, S mb]] w fun e w' => e = .returned (.tuple #[S (pans st mh mb).1, .int .i64 (pans st mh mb).2]) ∧ Below w.heap.size w w' := by
  have b0 := (Below.refl w.heap.size w).alloc (Nat.le_refl _) (.cells #[.int .i64 st, .slice a n cap, S mb] 26)
  have x0 := heap_alloc_new w (.cells #[.int .i64 st, .slice a n cap, S mb] 26)
  have H3 := hide (rBodied_any a n cap mh mb _ (hp.below b0) hL hn (by omega))
  have HY : Hid (stat st = true → flw mh mb = true → pans st mh mb = (lay (aline st.toNat) mh mb, 0)) := hide (fun h h' => by unfold pans; rw [if_pos (by simp [h, h'])])
  have HN : Hid (stat st = false ∨ flw mh mb = false → pans st mh mb = ([], 55)) := hide (fun h => by unfold pans; rw [if_neg (by rcases h with h | h <;> simp [h])])
  generalize pans st mh mb = R at *
  have X0 := hide (And.intro b0 (And.intro x0 hp))
  clear b0 x0 hp
  go_enter Tryz.func28, Tryz.ntmps28
  go_wp2_with fail
  refine (unhide H3).mono ?_
  rintro e w1 ⟨rfl, b1⟩
  have x1 := (b1.block _ (lt_of_row (unhide X0).2.1)).trans (unhide X0).2.1
  have b1' := (unhide X0).1.trans (b1.mono (unhide X0).1.size)
  have X1 := hide (And.intro b1' (And.intro x1 ((unhide X0).2.2.below b1')))
  have d0 : w1.cell? ⟨w.heap.size, 0, none⟩ = some (.int .i64 st) := cell_of_row w1 _ 0 _ 26 (0, 0) x1
  have d1 : w1.cell? ⟨w.heap.size, 1, none⟩ = some (.slice a n cap) := cell_of_row w1 _ 1 _ 26 (0, 0) x1
  have d2 : w1.cell? ⟨w.heap.size, 2, none⟩ = some (S mb) := cell_of_row w1 _ 2 _ 26 (0, 0) x1
  clear b1 b1' x1 X0 H3
  cases hC : flw mh mb
  · have HR := hide (unhide HN (.inr hC))
    go_wp2
    go_ret2
    exact ⟨by rw [unhide HR]; rfl, (unhide X1).1⟩
  by_cases h1 : st < 100
  · have HR := hide (unhide HN (.inl (by unfold stat; exact decide_eq_false (by omega))))
    go_wp2
    go_ret2
    exact ⟨by rw [unhide HR]; rfl, (unhide X1).1⟩
  by_cases h2 : 599 < st
  · have HR := hide (unhide HN (.inl (by unfold stat; exact decide_eq_false (by omega))))
    have h1' : decide (st < 100) = false := by simpa using h1
    go_wp2
    go_ret2
    exact ⟨by rw [unhide HR]; rfl, (unhide X1).1⟩
  have HR := hide (unhide HY (by unfold stat; exact decide_eq_true (by omega)) hC)
  obtain ⟨N, rfl⟩ : ∃ N : Nat, st = (N : Int) := ⟨st.toNat, by omega⟩
  have q1 := dec_len N (by omega)
  have q2 := (rsn_shn (N : Int)).2
  have q3 := lad_len hC
  have HC := hide (cata (decDigits N) (rsn (N : Int)) (lad mh mb))
  rw [lay_lad] at HR
  obtain ⟨b1, x1, f1⟩ := unhide X1
  have B0 := hide (fun k : Nat => Calls.mono (digits_any N (w1.drewN k) (by omega)) (fun e w'' h => (⟨h.1, k, h.2⟩ : e = Ending.returned (S (decDigits N)) ∧ ∃ n, w'' = w1.drewN n)))
  have B2 := hide (fun k : Nat => Calls.mono (rReason_any (N : Int) (w1.drewN k)) (fun e w'' h => (⟨h.1, k, h.2⟩ : e = Ending.returned (S (rsn (N : Int))) ∧ ∃ n, w'' = w1.drewN n)))
  have B1 := hide (fun k : Nat => Calls.mono (laid_any a n cap mh mb (w1.drewN k) (f1.below (below_dN (Below.refl _ _) k)) hC) (fun e w'' h => (⟨h.1, by obtain ⟨q, hq⟩ := h.2; exact ⟨k + q, by rw [hq]; simp⟩⟩ : e = Ending.returned (S (lad mh mb)) ∧ ∃ n, w'' = w1.drewN n)))
  have HA : Hid (aline (N : Int).toNat = [72, 84, 84, 80, 47, 49, 46, 49, 32] ++ decDigits N ++ [32] ++ rsn (N : Int)) := hide rfl
  generalize lad mh mb = LL at *
  generalize decDigits N = DD at *
  generalize rsn (N : Int) = RR at *
  have h1' : decide ((N : Int) < 100) = false := by simpa using h1
  have h2' : decide ((599 : Int) < (N : Int)) = false := by simpa using h2
  clear hC b1 x1 f1 HY HN
  go_wp2_with fail
  go_quiet ((first | (go_at_call 60; with_reducible exact unhide B1 _) | (go_at_call 58; with_reducible exact unhide B0 _) | (go_at_call 59; with_reducible exact unhide B2 _)))
  have HZ := hide (below_dN (unhide X1).1 nq)
  generalize w1.drewN nq = wv at *
  rw [unhide HC]
  go_wp2
  go_ret2
  exact ⟨by rw [unhide HR, unhide HA]; rfl, unhide HZ⟩
end Go.Proofs.YthlacailhfhjnaaGreatDoor
namespace Go.Proofs.YthlacailhfhjnaaGreatDoor
open Go.RowKit Go.Lib
set_option maxHeartbeats 4000000 in
set_option maxRecDepth 8000 in
theorem judgeFirst47_any {B P : Nat} {p : Ps} {nx hv : Value} {w : World} (h : PAt 47 P p nx hv w) (_hE : Env B w) (l : Bs) (r : Bool) (hl : l.length ≤ 1000000) (hst : p.st = 0) :
    Calls Tryz.prog 114 #[ptr P, S l, .bool r] w fun e w' => e = .returned (.int .i64 (jFst opM p l r).2) ∧ PAt 47 P (jr (jFst opM p l r) p) nx hv w' ∧ Only (fun k => k = P) w w' := by
  have HO := hide (messageLine_any l w (by omega))
  have c2 : w.cell? ⟨P, 2, none⟩ = some (Fn1 47) := h.cell 2
  have hlt := h.lt
  have H := hide h
  clear h _hE
  cases ho : opM l with
  | none =>
    rw [ho] at HO
    have hj : jFst opM p l r = (pov, 50) := by unfold jFst; rw [ho]
    rw [hj]
    clear ho hj
    go_enter Tryz.func114, Tryz.ntmps114
    go_wp2_with fail
    refine (unhide HO).mono ?_
    rintro e w1 ⟨rfl, b1⟩
    have H1 := hide ((unhide H).below b1)
    have O1 := hide (Only.of_below (P := fun k => k = P) b1)
    simp only [opv]
    cases r
    · go_wp2
      go_ret
      exact ⟨rfl, (unhide H1).below ((Below.refl _ _).alloc (Nat.le_refl _) _), (unhide O1).more _⟩
    · go_wp2
      go_ret
      exact ⟨rfl, (unhide H1).below ((Below.refl _ _).alloc (Nat.le_refl _) _), (unhide O1).more _⟩
  | some f =>
    rw [ho] at HO
    have hj : jFst opM p l r = if r then ({ p with fs := f, st := 1 }, 0) else (pov, 50) := by unfold jFst; rw [ho]
    rw [hj]
    obtain ⟨fm, fp, fs⟩ := f
    clear ho hj
    go_enter Tryz.func114, Tryz.ntmps114
    go_wp2_with fail
    refine (unhide HO).mono ?_
    rintro e w1 ⟨rfl, b1⟩
    have H1 := hide ((unhide H).below b1)
    have O1 := hide (Only.of_below (P := fun k => k = P) b1)
    have hlt1 := (unhide H1).lt
    have d4 : w1.cell? ⟨P, 4, none⟩ = some (S p.fs.m) := (unhide H1).cell 4
    have d5 : w1.cell? ⟨P, 5, none⟩ = some (S p.fs.p) := (unhide H1).cell 5
    have d6 : w1.cell? ⟨P, 6, none⟩ = some (.int .i64 p.fs.s) := (unhide H1).cell 6
    have d0 : w1.cell? ⟨P, 0, none⟩ = some (.int .i64 p.st) := (unhide H1).cell 0
    have dz : ∀ j, w1.frozen? ⟨P, j, none⟩ = false := (unhide H1).fz
    simp only [opv]
    cases r
    · go_wp2
      go_ret
      exact ⟨rfl, (unhide H1).below ((Below.refl _ _).alloc (Nat.le_refl _) _), (unhide O1).more _⟩
    · go_wp2
      go_ret
      refine ⟨rfl, ?_, ?_⟩
      · have A1 := (unhide H1).set 4 (S fm) (op' := 47) (nx' := nx) (p' := { p with fs := ⟨fm, p.fs.p, p.fs.s⟩ }) rfl rfl
        have A2 := A1.set 5 (S fp) (op' := 47) (nx' := nx) (p' := { p with fs := ⟨fm, fp, p.fs.s⟩ }) rfl rfl
        have A3 := A2.set 6 (.int .i64 fs) (op' := 47) (nx' := nx) (p' := { p with fs := ⟨fm, fp, fs⟩ }) rfl rfl
        have A4 := A3.set 0 (.int .i64 1) (op' := 47) (nx' := nx) (p' := { p with fs := ⟨fm, fp, fs⟩, st := 1 }) (by simp [cellsP, bdv, hst]) rfl
        exact A4.below ((Below.refl _ _).alloc (Nat.le_refl _) _)
      · exact ((((((unhide O1).put _ _ (.inl rfl)).put _ _ (.inl rfl)).put _ _ (.inl rfl)).put _ _ (.inl rfl)).more _)
set_option maxHeartbeats 4000000 in
set_option maxRecDepth 8000 in
theorem judgeFirst69_any {B P : Nat} {p : Ps} {nx hv : Value} {w : World} (h : PAt 69 P p nx hv w) (hE : Env B w) (l : Bs) (r : Bool) (hl : l.length ≤ 1000000) (hst : p.st = 0) :
    Calls Tryz.prog 114 #[ptr P, S l, .bool r] w fun e w' => e = .returned (.int .i64 (jFst opA p l r).2) ∧ PAt 69 P (jr (jFst opA p l r) p) nx hv w' ∧ Only (fun k => k = P) w w' := by
  have HO := hide (answerLine_any l w hl hE)
  have c2 : w.cell? ⟨P, 2, none⟩ = some (Fn1 69) := h.cell 2
  have hlt := h.lt
  have H := hide h
  clear h hE
  cases ho : opA l with
  | none =>
    rw [ho] at HO
    have hj : jFst opA p l r = (pov, 50) := by unfold jFst; rw [ho]
    rw [hj]
    clear ho hj
    go_enter Tryz.func114, Tryz.ntmps114
    go_wp2_with fail
    refine (unhide HO).mono ?_
    rintro e w1 ⟨rfl, b1⟩
    have H1 := hide ((unhide H).below b1)
    have O1 := hide (Only.of_below (P := fun k => k = P) b1)
    simp only [opv]
    cases r
    · go_wp2
      go_ret
      exact ⟨rfl, (unhide H1).below ((Below.refl _ _).alloc (Nat.le_refl _) _), (unhide O1).more _⟩
    · go_wp2
      go_ret
      exact ⟨rfl, (unhide H1).below ((Below.refl _ _).alloc (Nat.le_refl _) _), (unhide O1).more _⟩
  | some f =>
    rw [ho] at HO
    have hj : jFst opA p l r = if r then ({ p with fs := f, st := 1 }, 0) else (pov, 50) := by unfold jFst; rw [ho]
    rw [hj]
    obtain ⟨fm, fp, fs⟩ := f
    clear ho hj
    go_enter Tryz.func114, Tryz.ntmps114
    go_wp2_with fail
    refine (unhide HO).mono ?_
    rintro e w1 ⟨rfl, b1⟩
    have H1 := hide ((unhide H).below b1)
    have O1 := hide (Only.of_below (P := fun k => k = P) b1)
    have hlt1 := (unhide H1).lt
    have d4 : w1.cell? ⟨P, 4, none⟩ = some (S p.fs.m) := (unhide H1).cell 4
    have d5 : w1.cell? ⟨P, 5, none⟩ = some (S p.fs.p) := (unhide H1).cell 5
    have d6 : w1.cell? ⟨P, 6, none⟩ = some (.int .i64 p.fs.s) := (unhide H1).cell 6
    have d0 : w1.cell? ⟨P, 0, none⟩ = some (.int .i64 p.st) := (unhide H1).cell 0
    have dz : ∀ j, w1.frozen? ⟨P, j, none⟩ = false := (unhide H1).fz
    simp only [opv]
    cases r
    · go_wp2
      go_ret
      exact ⟨rfl, (unhide H1).below ((Below.refl _ _).alloc (Nat.le_refl _) _), (unhide O1).more _⟩
    · go_wp2
      go_ret
      refine ⟨rfl, ?_, ?_⟩
      · have A1 := (unhide H1).set 4 (S fm) (op' := 69) (nx' := nx) (p' := { p with fs := ⟨fm, p.fs.p, p.fs.s⟩ }) rfl rfl
        have A2 := A1.set 5 (S fp) (op' := 69) (nx' := nx) (p' := { p with fs := ⟨fm, fp, p.fs.s⟩ }) rfl rfl
        have A3 := A2.set 6 (.int .i64 fs) (op' := 69) (nx' := nx) (p' := { p with fs := ⟨fm, fp, fs⟩ }) rfl rfl
        have A4 := A3.set 0 (.int .i64 1) (op' := 69) (nx' := nx) (p' := { p with fs := ⟨fm, fp, fs⟩, st := 1 }) (by simp [cellsP, bdv, hst]) rfl
        exact A4.below ((Below.refl _ _).alloc (Nat.le_refl _) _)
      · exact ((((((unhide O1).put _ _ (.inl rfl)).put _ _ (.inl rfl)).put _ _ (.inl rfl)).put _ _ (.inl rfl)).more _)
end Go.Proofs.YthlacailhfhjnaaGreatDoor
namespace Go.Proofs.YthlacailhfhjnaaGreatDoor
open Go.RowKit Go.Lib
set_option maxHeartbeats 4000000 in
set_option maxRecDepth 8000 in
theorem judgeLength_any {op B P : Nat} {p : Ps} {nx hv : Value} {w : World} (h : PAt op P p nx hv w) (hE : Env B w) (l : Bs) (hl : l.length ≤ 1000000) :
    Calls Tryz.prog 136 #[ptr P, S l] w fun e w' => e = .returned (.int .i64 (jLen p l).2) ∧ PAt op P (jr (jLen p l) p) nx hv w' ∧ Only (fun k => k = P) w w' := by
  have c8 : w.cell? ⟨P, 8, none⟩ = some (.int .i64 p.len) := h.cell 8
  have hlt := h.lt
  have H := hide h
  have HN := hide (isNumber_any l w (by omega))
  clear h
  by_cases h1 : p.len = -1
  · have c8' : w.cell? ⟨P, 8, none⟩ = some (.int .i64 (-1)) := by rw [c8, h1]
    by_cases hn : num l = true
    · rw [hn] at HN
      by_cases hv : vl 0 l < 9223372036854775808
      · have HK := hide (atoi_ok l w (by omega) hn hv)
        by_cases h4 : 4000 < vl 0 l
        · have hj : jLen p l = (pov, 53) := by unfold jLen; rw [hn, decide_eq_true h1, if_neg (by simp), if_pos h4]
          rw [hj]
          have i4 : (4000 : Int) < (vl 0 l : Int) := by omega
          clear hj hE hv hn c8 h1
          generalize vl 0 l = V at *
          go_enter Tryz.func136, Tryz.ntmps136
          go_wp2_with (first | (go_at_call 95; refine (unhide HN).mono ?_; rintro e w' ⟨rfl, rfl⟩))
          refine (unhide HK).mono ?_
          rintro e w1 ⟨rfl, b1⟩
          have H1 := hide ((unhide H).below b1)
          have O1 := hide (Only.of_below (P := fun k => k = P) b1)
          clear b1
          go_wp2
          go_ret
          exact ⟨rfl, unhide H1, unhide O1⟩
        · have hj : jLen p l = ({ p with len := vl 0 l }, 0) := by unfold jLen; rw [hn, decide_eq_true h1, if_neg (by simp), if_neg h4]
          rw [hj]
          have i4 : ¬ (4000 : Int) < (vl 0 l : Int) := by omega
          clear hj hE hv hn c8 h1
          generalize vl 0 l = V at *
          go_enter Tryz.func136, Tryz.ntmps136
          go_wp2_with (first | (go_at_call 95; refine (unhide HN).mono ?_; rintro e w' ⟨rfl, rfl⟩))
          refine (unhide HK).mono ?_
          rintro e w1 ⟨rfl, b1⟩
          have H1 := hide ((unhide H).below b1)
          have O1 := hide (Only.of_below (P := fun k => k = P) b1)
          have d8 : w1.cell? ⟨P, 8, none⟩ = some (.int .i64 p.len) := (unhide H1).cell 8
          have dz : ∀ j, w1.frozen? ⟨P, j, none⟩ = false := (unhide H1).fz
          have hlt1 := (unhide H1).lt
          clear b1
          go_wp2
          go_ret
          refine ⟨rfl, ?_, (unhide O1).put _ _ (.inl rfl)⟩
          exact (unhide H1).set 8 (.int .i64 V) (op' := op) (nx' := nx) (p' := { p with len := V }) rfl rfl
      · have HK := hide (atoi_no l w hE (by omega) hn hv)
        have hj : jLen p l = (pov, 53) := by unfold jLen; rw [hn, decide_eq_true h1, if_neg (by simp), if_pos (by omega)]
        rw [hj]
        clear hj hE hv hn c8 h1
        go_enter Tryz.func136, Tryz.ntmps136
        go_wp2_with (first | (go_at_call 95; refine (unhide HN).mono ?_; rintro e w' ⟨rfl, rfl⟩))
        refine (unhide HK).mono ?_
        rintro e w1 ⟨x, ty, pv, rfl, b1⟩
        have H1 := hide ((unhide H).below b1)
        have O1 := hide (Only.of_below (P := fun k => k = P) b1)
        clear b1
        go_wp2
        go_ret
        exact ⟨rfl, unhide H1, unhide O1⟩
    · have hn' : num l = false := by simpa using hn
      rw [hn'] at HN
      have hj : jLen p l = (pov, 52) := by unfold jLen; rw [hn', if_pos (by simp)]
      rw [hj]
      clear hj hE hn hn' c8 h1
      go_enter Tryz.func136, Tryz.ntmps136
      go_wp2_with (first | (go_at_call 95; refine (unhide HN).mono ?_; rintro e w' ⟨rfl, rfl⟩))
      go_ret
      exact ⟨rfl, unhide H, Only.refl _ _⟩
  · have hj : jLen p l = (pov, 52) := by unfold jLen; rw [decide_eq_false h1, if_pos (by simp)]
    rw [hj]
    clear hj hE
    go_enter Tryz.func136, Tryz.ntmps136
    go_wp2
    go_ret
    exact ⟨rfl, unhide H, Only.refl _ _⟩
end Go.Proofs.YthlacailhfhjnaaGreatDoor
