import Derived.Test.YthlacailhfhjnaaGreatDoorWgb
import Derived.Deep.QuietTactic
import Derived.BigQuiet
namespace Go.Proofs.YthlacailhfhjnaaGreatDoor
open Go.RowKit Go.Lib
theorem addv_bd2 {n m : Int} (h0 : 0 ≤ n) (h1 : 0 ≤ m) : 0 ≤ addv n m ∧ addv n m ≤ 2147483648 := by
  unfold addv
  split <;> omega
set_option maxHeartbeats 2000000 in
theorem add2_any (n m : Int) (w : World) (h0 : 0 ≤ n) (h1 : 0 ≤ m) (h2 : n ≤ 9000000000000000000) (h3 : m ≤ 9000000000000000000) : Calls Tryz.prog 8 #[.int .i64 n, .int .i64 m] w fun e w' => e = .returned (.int .i64 (addv n m)) ∧ w' = w := by
  unfold addv
  by_cases h : 2147483647 - n < m
  · rw [if_pos h]
    go_enter Tryz.func8, Tryz.ntmps8
    go_wp2
    go_ret
    exact ⟨rfl, rfl⟩
  · rw [if_neg h]
    go_enter Tryz.func8, Tryz.ntmps8
    go_wp2
    go_ret
    exact ⟨rfl, rfl⟩
def wgm (f : Fl) : Int := addv (addv f.1.length f.2.length) 50
theorem wgm_bd (f : Fl) : 0 ≤ wgm f ∧ wgm f ≤ 2147483648 := addv_bd2 (addv_bd2 (by omega) (by omega)).1 (by omega)
def wst (n : Int) (f : Fl) : Int := addv n (addv (wgm f) (wgm f))
theorem wst_bd {n : Int} (f : Fl) (h : 0 ≤ n) : 0 ≤ wst n f ∧ wst n f ≤ 2147483648 := addv_bd2 h (addv_bd2 (wgm_bd f).1 (wgm_bd f).1).1
/-- How much fields weigh. -/
def wgt (fs : List Fl) : Int := fs.foldl wst 0
theorem wgt_next (fs : List Fl) (k : Nat) (h : k < fs.length) : wgt (fs.take (k + 1)) = wst (wgt (fs.take k)) (fs.getD k fl0) := by
  have e : fs.take (k + 1) = fs.take k ++ [fs.getD k fl0] := by
    rw [List.take_succ_eq_append_getElem h]
    simp [h]
  unfold wgt
  rw [e, List.foldl_append]
  rfl
theorem wgt_bd (fs : List Fl) : 0 ≤ wgt fs ∧ wgt fs ≤ 2147483648 := by
  suffices ∀ (l : List Fl) (n : Int), 0 ≤ n ∧ n ≤ 2147483648 → 0 ≤ l.foldl wst n ∧ l.foldl wst n ≤ 2147483648 from this fs 0 (by omega)
  intro l
  induction l with
  | nil => exact fun n h => h
  | cons x l ih => exact fun n h => ih _ (wst_bd x h.1)
theorem wgt_stay (l : List Fl) : l.foldl wst 2147483648 = 2147483648 := by
  induction l with
  | nil => rfl
  | cons x l ih =>
    have : wst 2147483648 x = 2147483648 := by
      have := (addv_bd2 (wgm_bd x).1 (wgm_bd x).1).1
      unfold wst
      generalize addv (wgm x) (wgm x) = A at *
      unfold addv
      rw [if_pos (by omega)]
    rw [List.foldl_cons, this]
    exact ih
theorem wgt_top (fs : List Fl) (k : Nat) (h : ¬ wgt (fs.take k) ≤ 2147483647) : wgt fs = 2147483648 := by
  have h2 := (wgt_bd (fs.take k)).2
  have e : wgt (fs.take k) = 2147483648 := by omega
  have : wgt fs = (fs.drop k).foldl wst (wgt (fs.take k)) := by
    unfold wgt
    rw [← List.foldl_append, List.take_append_drop]
  rw [this, e]
  exact wgt_stay _
set_option maxHeartbeats 4000000 in
set_option maxRecDepth 8000 in
theorem weight_any (a : Option Addr) (n cap : Nat) (fs : List Fl) (w : World) (hp : Fls w a n fs) (hn : n ≤ 140737488351232) (hL : Lens fs) :
    Calls Tryz.prog 35 #[.slice a n cap] w fun e w' => e = .returned (.int .i64 (wgt fs)) ∧ ∃ q, w' = w.drewN q := by
  have HP := hide hp
  clear hp
  go_enter Tryz.func35, Tryz.ntmps35
  go_wp2
  go_loopw [3, 4] (fun c i wr => ∃ k : Nat, k ≤ n ∧ i = .int .i64 k ∧ c = .int .i64 (wgt (fs.take k)) ∧ ∃ q, wr = w.drewN q) (fun _ i _ => n - (Go.RowKit.intOf i).toNat)
  case atStart => exact ⟨0, by omega, rfl, by simp [wgt], 0, rfl⟩
  case round =>
    obtain ⟨k, hkn, rfl, rfl, hq⟩ := hrel
    have HQ := hide hq
    have HR : Hid (Fls wr a n fs) := hide (by obtain ⟨Q, rfl⟩ := hq; exact (unhide HP).below (below_dN (Below.refl _ _) Q))
    clear hq
    have hle := wgt_bd (fs.take k)
    by_cases hlt : k < n
    · by_cases hm : wgt (fs.take k) ≤ 2147483647
      · obtain ⟨p, o, rfl, hpl, hc0, hc1⟩ := (unhide HR).at hlt
        have hnx := hide (wgt_next fs k (by have := (unhide HP).1; omega))
        have hX := hL k
        generalize fs.getD k fl0 = X at *
        obtain ⟨fn, fv⟩ := X
        simp only at hc0 hc1 hX
        generalize wgt (fs.take k) = C at *
        have A1 := hide (fun W => add2_any fn.length fv.length W (by omega) (by omega) (by omega) (by omega))
        have hb1 := addv_bd2 (show (0 : Int) ≤ fn.length by omega) (show (0 : Int) ≤ fv.length by omega)
        have A2 := hide (fun W => add2_any (addv fn.length fv.length) 50 W (by omega) (by omega) (by omega) (by omega))
        have hb2 := wgm_bd (fn, fv)
        have A3 := hide (fun W => add2_any (wgm (fn, fv)) (wgm (fn, fv)) W (by omega) (by omega) (by omega) (by omega))
        have hb3 := addv_bd2 hb2.1 hb2.1
        have A4 := hide (fun W => add2_any C (addv (wgm (fn, fv)) (wgm (fn, fv))) W (by omega) (by omega) (by omega) (by omega))
        have e2 : addv (addv fn.length fv.length) 50 = wgm (fn, fv) := rfl
        rw [e2] at A2
        clear e2
        unfold wst at hnx
        generalize addv C (addv (wgm (fn, fv)) (wgm (fn, fv))) = G at *
        generalize addv (wgm (fn, fv)) (wgm (fn, fv)) = H at *
        generalize wgm (fn, fv) = M at *
        generalize addv fn.length fv.length = D at *
        have hlt' : (k : Int) < (n : Int) := by omega
        clear hX hL hb1 hb2 hb3
        go_wp2_with fail
        have B1 := hide (fun m : Nat => Calls.mono (unhide A1 (wr.drewN m)) (fun e w'' h => (⟨h.1, m, h.2⟩ : e = Ending.returned (Value.int IntKind.i64 D) ∧ ∃ n, w'' = wr.drewN n)))
        have B2 := hide (fun m : Nat => Calls.mono (unhide A2 (wr.drewN m)) (fun e w'' h => (⟨h.1, m, h.2⟩ : e = Ending.returned (Value.int IntKind.i64 M) ∧ ∃ n, w'' = wr.drewN n)))
        clear A1 A2
        go_quiet ((go_at_call 8; with_reducible first | exact unhide B1 _ | exact unhide B2 _))
        have HW : Hid (∃ q, wr.drewN nq = w.drewN q) := hide (by obtain ⟨Q, rfl⟩ := unhide HQ; exact ⟨Q + nq, by simp⟩)
        generalize wr.drewN nq = wv at *
        go_wp2_with fail
        refine (unhide A3 _).mono ?_
        rintro e3 w3 ⟨rfl, hw3⟩
        rw [hw3]
        go_wp2_with fail
        refine (unhide A4 _).mono ?_
        rintro e4 w4 ⟨rfl, hw4⟩
        rw [hw4]
        go_wp2
        refine ⟨⟨k + 1, by omega, by go_num, by rw [unhide hnx], unhide HW⟩, ?_⟩
        simp [Go.RowKit.intOf]; omega
      · have e := wgt_top fs k hm
        have e2 : wgt (fs.take k) = 2147483648 := by omega
        rw [e2]
        clear hm e2 hle
        have he := hide e
        clear e
        go_wp2
        go_ret
        exact ⟨by rw [unhide he]; rfl, unhide HQ⟩
    · have hkn' : k = n := by omega
      have e : fs.take k = fs := List.take_of_length_le (by have := (unhide HP).1; omega)
      rw [e] at hle ⊢
      have hd : decide (k < n) = false := by simp; omega
      generalize hC : wgt fs = C at *
      clear hlt hkn'
      go_wp2
      go_ret
      exact ⟨by rw [hC]; rfl, unhide HQ⟩
theorem fls_dN {w : World} {a : Option Addr} {n : Nat} {fs : List Fl} (h : Fls w a n fs) (q : Nat) : Fls (w.drewN q) a n fs := h.below (below_dN (Below.refl _ _) q)
/-- How much an answer and a message weigh. -/
def tld (hs : List Fl) (b : Bs) : Int := addv (wgt hs) (addv b.length 100)
def siz (m : Ms) : Int := addv (addv m.m.length m.p.length) (addv (wgt m.hs) (addv m.b.length 100))
set_option maxHeartbeats 4000000 in
set_option maxRecDepth 8000 in
theorem told_any (st : Int) (a : Option Addr) (n cap : Nat) (fs : List Fl) (b : Bs) (w : World) (hp : Fls w a n fs) (hn : n ≤ 140737488351232) (hL : Lens fs) (hb : b.length ≤ 140737488351232) :
    Calls Tryz.prog 10 #[.agg #[.int .i64 st, .slice a n cap, S b]] w fun e w' => e = .returned (.int .i64 (tld fs b)) ∧ Below w.heap.size w w' := by
  have b0 := (Below.refl w.heap.size w).alloc (Nat.le_refl _) (.cells #[.int .i64 st, .slice a n cap, S b] 26)
  have x0 : (w.alloc (.cells #[.int .i64 st, .slice a n cap, S b] 26)).heap[w.heap.size]? = some (.cells #[.int .i64 st, .slice a n cap, S b] 26 (0, 0)) := heap_alloc_new _ _
  have HF := hide (fun m => weight_any a n cap fs _ (fls_dN (hp.below b0) m) hn hL)
  have A1 := hide (fun W => add2_any b.length 100 W (by omega) (by omega) (by omega) (by omega))
  have hb1 := addv_bd2 (show (0 : Int) ≤ b.length by omega) (show (0 : Int) ≤ 100 by omega)
  have hb2 := wgt_bd fs
  have A2 := hide (fun W => add2_any (wgt fs) (addv b.length 100) W (by omega) (by omega) (by omega) (by omega))
  have HB := hide b0
  unfold tld
  clear b0 hp hL
  generalize addv (wgt fs) (addv b.length 100) = G at *
  generalize addv b.length 100 = D at *
  generalize wgt fs = H at *
  go_enter Tryz.func10, Tryz.ntmps10
  go_wp2_with fail
  generalize w.alloc (.cells #[.int .i64 st, .slice a n cap, S b] 26) = W1 at *
  have d1 : W1.cell? ⟨w.heap.size, 1, none⟩ = some (.slice a n cap) := cell_of_row W1 _ 1 _ 26 (0, 0) x0
  have d2 : W1.cell? ⟨w.heap.size, 2, none⟩ = some (S b) := cell_of_row W1 _ 2 _ 26 (0, 0) x0
  clear x0
  have B0 := hide (fun m : Nat => Calls.mono (unhide HF m) (fun e w'' h => (⟨h.1, by obtain ⟨q, hq⟩ := h.2; exact ⟨m + q, by rw [hq]; simp⟩⟩ : e = Ending.returned (Value.int IntKind.i64 H) ∧ ∃ n, w'' = W1.drewN n)))
  have B1 := hide (fun m : Nat => Calls.mono (unhide A1 (W1.drewN m)) (fun e w'' h => (⟨h.1, m, h.2⟩ : e = Ending.returned (Value.int IntKind.i64 D) ∧ ∃ n, w'' = W1.drewN n)))
  have B2 := hide (fun m : Nat => Calls.mono (unhide A2 (W1.drewN m)) (fun e w'' h => (⟨h.1, m, h.2⟩ : e = Ending.returned (Value.int IntKind.i64 G) ∧ ∃ n, w'' = W1.drewN n)))
  clear A1 A2 HF
  go_quiet (first | (go_at_call 8; with_reducible first | exact unhide B1 _ | exact unhide B2 _) | (go_at_call 35; with_reducible exact unhide B0 _))
  have HW := hide (below_dN (unhide HB) nq)
  generalize W1.drewN nq = wv at *
  go_wp2
  go_ret
  exact ⟨rfl, unhide HW⟩
set_option maxHeartbeats 4000000 in
set_option maxRecDepth 8000 in
theorem size_any (m : Ms) (a : Option Addr) (n cap : Nat) (w : World) (hp : Fls w a n m.hs) (hn : n ≤ 140737488351232) (hL : Lens m.hs) (h1 : m.m.length ≤ 140737488351232) (h2 : m.p.length ≤ 140737488351232) (hb : m.b.length ≤ 140737488351232) :
    Calls Tryz.prog 9 #[.agg #[S m.m, S m.p, .slice a n cap, S m.b]] w fun e w' => e = .returned (.int .i64 (siz m)) ∧ Below w.heap.size w w' := by
  obtain ⟨mm, mp, fs, b⟩ := m
  simp only at hp hL h1 h2 hb ⊢
  have b0 := (Below.refl w.heap.size w).alloc (Nat.le_refl _) (.cells #[S mm, S mp, .slice a n cap, S b] 24)
  have x0 : (w.alloc (.cells #[S mm, S mp, .slice a n cap, S b] 24)).heap[w.heap.size]? = some (.cells #[S mm, S mp, .slice a n cap, S b] 24 (0, 0)) := heap_alloc_new _ _
  have HF := hide (fun m => weight_any a n cap fs _ (fls_dN (hp.below b0) m) hn hL)
  have A1 := hide (fun W => add2_any b.length 100 W (by omega) (by omega) (by omega) (by omega))
  have hb1 := addv_bd2 (show (0 : Int) ≤ b.length by omega) (show (0 : Int) ≤ 100 by omega)
  have hb2 := wgt_bd fs
  have A2 := hide (fun W => add2_any (wgt fs) (addv b.length 100) W (by omega) (by omega) (by omega) (by omega))
  have hb3 := addv_bd2 hb2.1 hb1.1
  have A3 := hide (fun W => add2_any mm.length mp.length W (by omega) (by omega) (by omega) (by omega))
  have hb4 := addv_bd2 (show (0 : Int) ≤ mm.length by omega) (show (0 : Int) ≤ mp.length by omega)
  have A4 := hide (fun W => add2_any (addv mm.length mp.length) (addv (wgt fs) (addv b.length 100)) W (by omega) (by omega) (by omega) (by omega))
  have HB := hide b0
  unfold siz
  simp only
  clear b0 hp hL
  generalize addv (addv mm.length mp.length) (addv (wgt fs) (addv b.length 100)) = K at *
  generalize addv mm.length mp.length = J at *
  generalize addv (wgt fs) (addv b.length 100) = G at *
  generalize addv b.length 100 = D at *
  generalize wgt fs = H at *
  go_enter Tryz.func9, Tryz.ntmps9
  go_wp2_with fail
  generalize w.alloc (.cells #[S mm, S mp, .slice a n cap, S b] 24) = W1 at *
  have d0 : W1.cell? ⟨w.heap.size, 0, none⟩ = some (S mm) := cell_of_row W1 _ 0 _ 24 (0, 0) x0
  have d1 : W1.cell? ⟨w.heap.size, 1, none⟩ = some (S mp) := cell_of_row W1 _ 1 _ 24 (0, 0) x0
  have d2 : W1.cell? ⟨w.heap.size, 2, none⟩ = some (.slice a n cap) := cell_of_row W1 _ 2 _ 24 (0, 0) x0
  have d3 : W1.cell? ⟨w.heap.size, 3, none⟩ = some (S b) := cell_of_row W1 _ 3 _ 24 (0, 0) x0
  clear x0
  have B0 := hide (fun m : Nat => Calls.mono (unhide HF m) (fun e w'' h => (⟨h.1, by obtain ⟨q, hq⟩ := h.2; exact ⟨m + q, by rw [hq]; simp⟩⟩ : e = Ending.returned (Value.int IntKind.i64 H) ∧ ∃ n, w'' = W1.drewN n)))
  have B1 := hide (fun m : Nat => Calls.mono (unhide A1 (W1.drewN m)) (fun e w'' h => (⟨h.1, m, h.2⟩ : e = Ending.returned (Value.int IntKind.i64 D) ∧ ∃ n, w'' = W1.drewN n)))
  have B2 := hide (fun m : Nat => Calls.mono (unhide A2 (W1.drewN m)) (fun e w'' h => (⟨h.1, m, h.2⟩ : e = Ending.returned (Value.int IntKind.i64 G) ∧ ∃ n, w'' = W1.drewN n)))
  have B3 := hide (fun m : Nat => Calls.mono (unhide A3 (W1.drewN m)) (fun e w'' h => (⟨h.1, m, h.2⟩ : e = Ending.returned (Value.int IntKind.i64 J) ∧ ∃ n, w'' = W1.drewN n)))
  have B4 := hide (fun m : Nat => Calls.mono (unhide A4 (W1.drewN m)) (fun e w'' h => (⟨h.1, m, h.2⟩ : e = Ending.returned (Value.int IntKind.i64 K) ∧ ∃ n, w'' = W1.drewN n)))
  clear A1 A2 A3 A4 HF
  go_quiet (first | (go_at_call 8; with_reducible first | exact unhide B1 _ | exact unhide B2 _ | exact unhide B3 _ | exact unhide B4 _) | (go_at_call 35; with_reducible exact unhide B0 _))
  have HW := hide (below_dN (unhide HB) nq)
  generalize W1.drewN nq = wv at *
  go_wp2
  go_ret
  exact ⟨rfl, unhide HW⟩
end Go.Proofs.YthlacailhfhjnaaGreatDoor
