import Derived.Test.YthlacailhfhjnaaGreatDoorZwdb
import Derived.Test.YthlacailhfhjnaaGreatDoorRgr
import Derived.Test.YthlacailhfhjnaaGreatDoorZwbd
import Derived.Deep.QuietTactic
import Derived.BigQuiet
namespace Go.Proofs.YthlacailhfhjnaaGreatDoor
open Go.RowKit Go.Lib
def aline (n : Nat) : Bs := [72, 84, 84, 80, 47, 49, 46, 49, 32] ++ decDigits n ++ [32] ++ rsn n
def pans (st : Int) (hs : List Fl) (b : Bs) : Bs × Nat := if stat st && flw hs b then (lay (aline st.toNat) hs b, 0) else ([], 55)
set_option maxHeartbeats 8000000 in
set_option maxRecDepth 8000 in
theorem printAnswer_any {B : Nat} (st : Int) (mh : List Fl) (mb : Bs) (a : Option Addr) (n cap : Nat) (w : World) (hp : Fls w a n mh) (hE : Env B w) (hL : Lens mh) (h3 : mb.length ≤ 140737488351232) (hn : n ≤ 140737488351232) :
    Calls Tryz.prog 32 #[.agg #[.int .i64 st, .slice a n cap, S mb]] w fun e w' => e = .returned (.tuple #[S (pans st mh mb).1, .int .i64 (pans st mh mb).2]) ∧ Below w.heap.size w w' := by
  have HM := hide (fun W => isStatus_any st W)
  have b0 : Below w.heap.size w (w.alloc (.cells #[.int .i64 st, .slice a n cap, S mb] 26)) := (Below.refl _ _).alloc (Nat.le_refl _) _
  have HF := hide (fun W (h : Below w.heap.size w W) => mayFollow_any a n cap mh mb W (hp.below h) hL hn (by omega))
  have HLY := hide (fun W (h : Below w.heap.size w W) (first : Bs) (g1 : first.length ≤ 1000000000000) (g2 : (hlns mh).length ≤ 1000000000000) (g3 : mb.length ≤ 1000000000000) (g4 : n ≤ 1000000000000) => lay_any first a n cap mh mb W (hp.below h) (hE.mono.below h) g1 g2 g3 g4)
  have HNL := hide hp.1
  have HB0 := hide b0
  have HE := hide hE.mono
  have HX : Hid (pans st mh mb = if stat st && flw mh mb then (lay (aline st.toNat) mh mb, 0) else ([], 55)) := hide rfl
  generalize pans st mh mb = X at *
  clear hp hE hL b0
  by_cases hm : stat st = true
  case neg =>
    have hm' : stat st = false := by simpa using hm
    rw [hm'] at HM HX
    have hX : X = ([], 55) := by rw [unhide HX]; rfl
    subst hX
    go_enter Tryz.func32, Tryz.ntmps32
    go_wp2_with (first | (go_at_call 66; refine (unhide HM _).mono ?_; rintro e w' ⟨rfl, hw⟩; rw [hw]; clear hw w'))
    go_ret2
    exact ⟨rfl, unhide HB0⟩
  have hst : 100 ≤ st ∧ st ≤ 599 := by unfold stat at hm; simpa using hm
  rw [hm] at HM HX
  by_cases hf : flw mh mb = true
  case neg =>
    have hf' : flw mh mb = false := by simpa using hf
    rw [hf'] at HF HX
    have hX : X = ([], 55) := by rw [unhide HX]; rfl
    subst hX
    go_enter Tryz.func32, Tryz.ntmps32
    go_wp2_with (first | (go_at_call 66; refine (unhide HM _).mono ?_; rintro e w' ⟨rfl, hw⟩; rw [hw]; clear hw w'))
    refine (unhide HF _ (unhide HB0)).mono ?_
    rintro e w2 ⟨rfl, b2⟩
    have HB2 := hide ((unhide HB0).trans (b2.mono (by simp)))
    clear b2
    go_wp2
    go_ret2
    exact ⟨rfl, unhide HB2⟩
  have hfl := flw_len hf
  rw [hf] at HF HX
  have hX : X = (lay (aline st.toNat) mh mb, 0) := by rw [unhide HX]; rfl
  have HXX := hide hX
  obtain ⟨N1, hN1⟩ : ∃ N1 : Nat, st = (N1 : Int) := ⟨st.toNat, by omega⟩
  have HST := hide hN1
  have hdl := itoa_len N1 (by omega)
  have hrl := (rsn_shn N1).2
  have hmll : (aline N1).length ≤ 1000000000000 := by simp [aline]; omega
  have HLY2 := hide (fun W h => unhide HLY W h (aline N1) hmll (by omega) (by omega) (by have := unhide HNL; omega))
  have hN599 : N1 ≤ 599 := by omega
  clear hX HX HLY hm hf hN1
  go_enter Tryz.func32, Tryz.ntmps32
  go_wp2_with (first | (go_at_call 66; refine (unhide HM _).mono ?_; rintro e w' ⟨rfl, hw⟩; rw [hw]; clear hw w'))
  refine (unhide HF _ (unhide HB0)).mono ?_
  rintro e w2 ⟨rfl, b2⟩
  have HB2 := hide ((unhide HB0).trans (b2.mono (by simp)))
  have HBLK := hide ((b2.block w.heap.size (by simp)).trans (heap_alloc_new w (.cells #[.int .i64 st, .slice a n cap, S mb] 26)))
  have hz2 : w.heap.size < w2.heap.size := lt_of_row (unhide HBLK)
  clear b2
  go_wp2
  have HW : ∀ W, Below w2.heap.size w2 W → Below w.heap.size w W := fun W h => (unhide HB2).trans (h.mono (by omega))
  have HC : ∀ W, Below w2.heap.size w2 W → W.heap[w.heap.size]? = some (.cells #[.int .i64 st, .slice a n cap, S mb] 26 (0, 0)) := fun W h => (h.block _ hz2).trans (unhide HBLK)
  refine rpr w.heap.size n cap st a (decDigits N1) (rsn N1) mb (lay (aline N1) mh mb) rfl rfl rfl _ _ (show 30 ≤ 30 from by decide) rfl (fun _ W => Below w2.heap.size w2 W) ((Below.refl _ _).drew) (fun _ _ _ _ h => h) (fun L W h => cell_of_row W _ 0 _ 26 (0, 0) (HC W h)) (fun L W h => cell_of_row W _ 0 _ 26 (0, 0) (HC W h)) (fun L W h => cell_of_row W _ 1 _ 26 (0, 0) (HC W h)) (fun L W h => cell_of_row W _ 2 _ 26 (0, 0) (HC W h)) (by simp; omega) (by simp; omega) (by simp; omega) ?_ ?_ ?_ ?_
  · intro L W h _
    rw [unhide HST]
    refine (itoa_any N1 W ((unhide HE).below (HW W h)) (by omega)).mono ?_
    rintro e w' ⟨rfl, b⟩
    exact ⟨rfl, h.trans (b.mono h.size)⟩
  · intro L W h _
    rw [unhide HST]
    refine (reason_any (N1 : Int) W).mono ?_
    rintro e w' ⟨rfl, rfl⟩
    exact ⟨rfl, h⟩
  · intro L W h _
    refine (unhide HLY2 W (HW W h)).mono ?_
    rintro e w' ⟨rfl, b⟩
    exact ⟨rfl, h.trans (b.mono h.size)⟩
  intro L W _ h
  have HB3 := hide (HW W h)
  clear HW HC h
  simp only [Act.put, List.setIfInBounds_toArray, List.set_cons_succ, List.set_cons_zero]
  go_wp2
  go_ret2
  exact ⟨by rw [unhide HXX]; simp only [unhide HST]; rfl, unhide HB3⟩
end Go.Proofs.YthlacailhfhjnaaGreatDoor
namespace Go.Proofs.YthlacailhfhjnaaGreatDoor
open Go.RowKit Go.Lib
set_option maxHeartbeats 8000000 in
set_option maxRecDepth 8000 in
theorem fields_eq (a1 a2 : Option Addr) (n c1 c2 : Nat) (fs : List Fl) (w : World) (h1 : Fls w a1 n fs) (h2 : Fls w a2 n fs) (hn : n ≤ 1000000000000) :
    Calls Tryz.prog 54 #[.slice a1 n c1, .slice a2 n c2] w fun e w' => e = .returned (.bool true) ∧ Below w.heap.size w w' := by
  have H1 := hide h1
  have H2 := hide h2
  clear h1 h2
  go_enter Tryz.func54, Tryz.ntmps54
  go_wp2
  go_loopw [5] (fun i wr => ∃ k : Nat, k ≤ n ∧ i = .int .i64 k ∧ Below w.heap.size w wr) (fun i _ => n - (Go.RowKit.intOf i).toNat)
  case atStart => exact ⟨0, by omega, rfl, Below.refl _ _⟩
  case round =>
    obtain ⟨k, hk, rfl, hb⟩ := hrel
    by_cases hlt : k < n
    · obtain ⟨p, o, rfl, hpl, hc0, hc1⟩ := ((unhide H1).below hb).at hlt
      obtain ⟨p2, o2, rfl, hpl2, hd0, hd1⟩ := ((unhide H2).below hb).at hlt
      generalize fs.getD k fl0 = F at *
      obtain ⟨fn, fv⟩ := F
      simp only at hc0 hc1 hd0 hd1
      have hlt' : (k : Int) < (n : Int) := by omega
      have HB := hide hb
      clear hb
      go_wp2
      go_quiet (fail)
      have HB2 := hide (below_dN (unhide HB) nq)
      generalize wr.drewN nq = w2 at *
      go_wp2
      refine ⟨⟨k + 1, by omega, by go_num, unhide HB2⟩, ?_⟩
      simp [Go.RowKit.intOf]; omega
    · have hd : decide (k < n) = false := by simp; omega
      have HB := hide hb
      clear hb
      go_wp2
      go_ret
      exact ⟨rfl, unhide HB⟩
set_option maxHeartbeats 8000000 in
set_option maxRecDepth 8000 in
theorem sameMessage_eq (a1 a2 : Option Addr) (n c1 c2 : Nat) (fs : List Fl) (m p b : Bs) (w : World) (h1 : Fls w a1 n fs) (h2 : Fls w a2 n fs) (hn : n ≤ 1000000000000) :
    Calls Tryz.prog 51 #[.agg #[S m, S p, .slice a1 n c1, S b], .agg #[S m, S p, .slice a2 n c2, S b]] w fun e w' => e = .returned (.bool true) ∧ Below w.heap.size w w' := by
  have b0 := (((Below.refl w.heap.size w).alloc (Nat.le_refl _) (.cells #[S m, S p, .slice a1 n c1, S b] 24)).alloc (by simp) (.cells #[S m, S p, .slice a2 n c2, S b] 24))
  have HF := hide (fields_eq a1 a2 n c1 c2 fs _ (h1.below b0) (h2.below b0) hn)
  have x0 : ((w.alloc (.cells #[S m, S p, .slice a1 n c1, S b] 24)).alloc (.cells #[S m, S p, .slice a2 n c2, S b] 24)).heap[w.heap.size]? = some (.cells #[S m, S p, .slice a1 n c1, S b] 24 (0, 0)) := by rw [heap_alloc_old _ _ (by simp)]; exact heap_alloc_new _ _
  have x1 : ((w.alloc (.cells #[S m, S p, .slice a1 n c1, S b] 24)).alloc (.cells #[S m, S p, .slice a2 n c2, S b] 24)).heap[w.heap.size + 1]? = some (.cells #[S m, S p, .slice a2 n c2, S b] 24 (0, 0)) := by
    have := heap_alloc_new (w.alloc (.cells #[S m, S p, .slice a1 n c1, S b] 24)) (.cells #[S m, S p, .slice a2 n c2, S b] 24)
    simpa using this
  have HX := hide (And.intro b0 (And.intro x0 x1))
  clear b0 x0 x1 h1 h2
  go_enter Tryz.func51, Tryz.ntmps51
  go_wp2_with fail
  generalize (w.alloc (.cells #[S m, S p, .slice a1 n c1, S b] 24)).alloc (.cells #[S m, S p, .slice a2 n c2, S b] 24) = W1 at *
  refine (unhide HF).mono ?_
  rintro e w2 ⟨rfl, b2⟩
  obtain ⟨b0, x0, x1⟩ := unhide HX
  have y0 := (b2.block _ (lt_of_row x0)).trans x0
  have y1 := (b2.block _ (lt_of_row x1)).trans x1
  have d0 : w2.cell? ⟨w.heap.size, 0, none⟩ = some (S m) := cell_of_row w2 _ 0 _ 24 (0, 0) y0
  have d1 : w2.cell? ⟨w.heap.size, 1, none⟩ = some (S p) := cell_of_row w2 _ 1 _ 24 (0, 0) y0
  have d3 : w2.cell? ⟨w.heap.size, 3, none⟩ = some (S b) := cell_of_row w2 _ 3 _ 24 (0, 0) y0
  have e0 : w2.cell? ⟨w.heap.size + 1, 0, none⟩ = some (S m) := cell_of_row w2 _ 0 _ 24 (0, 0) y1
  have e1 : w2.cell? ⟨w.heap.size + 1, 1, none⟩ = some (S p) := cell_of_row w2 _ 1 _ 24 (0, 0) y1
  have e3 : w2.cell? ⟨w.heap.size + 1, 3, none⟩ = some (S b) := cell_of_row w2 _ 3 _ 24 (0, 0) y1
  have HB := hide (b0.trans (b2.mono b0.size))
  clear b0 x0 x1 y0 y1 b2 HX HF
  go_wp2
  go_ret
  exact ⟨by first | rfl | simp, unhide HB⟩
end Go.Proofs.YthlacailhfhjnaaGreatDoor
namespace Go.Proofs.YthlacailhfhjnaaGreatDoor
open Go.RowKit Go.Lib
theorem up_ne32 {c : UInt8} (h : up c = true) : c ≠ 32 ∧ c ≠ 10 := by
  have q : ∀ c : UInt8, up c = true → c ≠ 32 ∧ c ≠ 10 := all_u8 (by decide +kernel)
  exact q c h
theorem pby_ne32 {c : UInt8} (h : pby c = true) : c ≠ 32 ∧ c ≠ 10 := by
  have q : ∀ c : UInt8, pby c = true → c ≠ 32 ∧ c ≠ 10 := all_u8 (by decide +kernel)
  exact q c h
theorem meth_all {s : Bs} (h : meth s = true) : ∀ c ∈ s, up c = true := by
  unfold meth at h; simp only [Bool.and_eq_true] at h; exact List.all_eq_true.1 h.2
theorem pth_all {s : Bs} (h : pth s = true) : ∀ c ∈ s, pby c = true := by
  unfold pth at h; simp only [Bool.and_eq_true] at h; exact List.all_eq_true.1 h.2
/-- The first line that is printed of a message is read as it was. -/
theorem mline_op {m p : Bs} (hm : meth m = true) (hp : pth p = true) : opM (mline m p) = some ⟨m, p, 0⟩ ∧ (∀ c ∈ mline m p, c ≠ 10) ∧ (mline m p).length ≤ 1000 := by
  have e1 : mline m p = m ++ 32 :: (p ++ 32 :: vers) := by simp [mline]
  have a1 := hd_app 32 m (p ++ 32 :: vers) (fun x hx => (up_ne32 (meth_all hm x hx)).1)
  have a2 := hd_app 32 p vers (fun x hx => (pby_ne32 (pth_all hp x hx)).1)
  refine ⟨?_, ?_, ?_⟩
  · unfold opM
    rw [e1, a1.1, a1.2, a2.1, a2.2, hm, hp]
    simp
  · intro c hc
    rw [e1] at hc
    simp only [List.mem_append, List.mem_cons] at hc
    rcases hc with hc | rfl | hc | rfl | hc
    · exact (up_ne32 (meth_all hm c hc)).2
    · decide
    · exact (pby_ne32 (pth_all hp c hc)).2
    · decide
    · revert c hc; decide
  · have := meth_len hm
    have := pth_len hp
    rw [e1]
    simp [vers]
    omega
/-- A message that was printed: its bytes but the last end nothing, the last one ends it. -/
theorem msg_back {m : Ms} (h : may m = true) (hd9 : (decDigits m.b.length).length ≤ 100) : ∃ (i : Bs) (c : UInt8) (q : Ps), lay (mline m.m m.p) m.hs m.b = i ++ [c] ∧ run opM p0 i = some q ∧ (step opM q c).2 = 0 ∧ (step opM q c).1.st = 3 ∧ (step opM q c).1.ms = m := by
  unfold may at h
  simp only [Bool.and_eq_true] at h
  obtain ⟨o1, o2, o3⟩ := mline_op h.1.1 h.1.2
  obtain ⟨i, c, q, e, hr, hs⟩ := lay_reads o1 o2 o3 m.hs m.b h.2 hd9
  refine ⟨i, c, q, e, hr, ?_⟩
  rw [hs]
  exact ⟨rfl, rfl, rfl⟩
theorem dec_len (n : Nat) (h : n < 10000) : (decDigits n).length ≤ 4 := by
  by_cases h1 : n < 10
  · rw [decDigits, dif_pos h1]; simp
  by_cases h2 : n < 100
  · rw [decDigits, dif_neg h1, decDigits, dif_pos (by omega)]; simp
  by_cases h3 : n < 1000
  · rw [decDigits, dif_neg h1, decDigits, dif_neg (by omega), decDigits, dif_pos (by omega)]; simp
  · rw [decDigits, dif_neg h1, decDigits, dif_neg (by omega), decDigits, dif_neg (by omega), decDigits, dif_pos (by omega)]; simp
/-- A beginning of a message, then the rest. -/
theorem feed_begin {m : Ms} (h : may m = true) (k : Nat) (hk : k < (lay (mline m.m m.p) m.hs m.b).length) :
    ∃ r, feed p0 ((lay (mline m.m m.p) m.hs m.b).take k) = (r, [], 0) ∧ r.rd = k ∧ r.st < 3 ∧ feed r ((lay (mline m.m m.p) m.hs m.b).drop k) = (p0, [m], 0) := by
  have hb : m.b.length ≤ 4000 := by
    unfold may at h
    simp only [Bool.and_eq_true] at h
    exact (flw_len h.2).2.2
  obtain ⟨i, c, q, e, hr, s1, s2, s3⟩ := msg_back h (by have := dec_len m.b.length (by omega); omega)
  rw [e] at hk ⊢
  have hk2 : k ≤ i.length := by simp at hk; omega
  obtain ⟨r, r1, r2⟩ := run_take hr k
  have t1 : (i ++ [c]).take k = i.take k := by rw [List.take_append_of_le_length hk2]
  have t2 : (i ++ [c]).drop k = i.drop k ++ [c] := by rw [List.drop_append_of_le_length hk2]
  have hrd := run_rd r1 (by decide)
  refine ⟨r, ?_, ?_, hrd.2, ?_⟩
  · unfold feed
    rw [if_neg (by decide), t1]
    have := fd_run r1 [] []
    rw [List.append_nil] at this
    rw [this]; rfl
  · rw [hrd.1]
    simp [p0]
    omega
  · unfold feed
    rw [if_neg (by have := hrd.2; omega), t2, fd_run r2]
    simp only [fd]
    rw [if_neg (by simp [s1]), if_pos s2, s3]
    rfl
end Go.Proofs.YthlacailhfhjnaaGreatDoor
