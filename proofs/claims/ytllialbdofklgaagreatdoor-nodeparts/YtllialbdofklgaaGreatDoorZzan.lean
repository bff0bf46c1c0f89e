import Derived.Test.YtllialbdofklgaaGreatDoorNdi
namespace Go.Proofs.YtllialbdofklgaaGreatDoor
open Go.RowKit
set_option maxHeartbeats 16000000
set_option maxRecDepth 8000
theorem rv_lo (size : Nat) (s : Bs × Nat) : 0 ≤ rv size s := by
  unfold rv
  split <;> omega
theorem rv_hi1 (s : Bs × Nat) : rv 1 s < 256 := by
  unfold rv
  split
  · have := nat_lt (s.1.take 1)
    have h2 : 256 ^ (s.1.take 1).length ≤ 256 ^ 1 := Nat.pow_le_pow_right (by omega) (by rw [List.length_take]; omega)
    omega
  · omega
theorem set4 {w : World} {Z : Nat} {old : Array Value} (h : w.heap[Z]? = some (.cells old 25 (0, 0))) (ho : old.size = 4) (a b c d : Value) : ((((w.setCell ⟨Z, 0, none⟩ a).setCell ⟨Z, 1, none⟩ b).setCell ⟨Z, 2, none⟩ c).setCell ⟨Z, 3, none⟩ d).heap[Z]? = some (.cells #[a, b, c, d] 25 (0, 0)) := by
  rw [heap_setCell_same _ Z 3 _ 25 d (heap_setCell_same _ Z 2 _ 25 c (heap_setCell_same _ Z 1 _ 25 b (heap_setCell_same _ Z 0 _ 25 a h)))]
  match old, ho with
  | ⟨[x0, x1, x2, x3]⟩, _ => rfl
theorem set4_only (w : World) (Z : Nat) (a b c d : Value) : Only (fun k => k = Z) w ((((w.setCell ⟨Z, 0, none⟩ a).setCell ⟨Z, 1, none⟩ b).setCell ⟨Z, 2, none⟩ c).setCell ⟨Z, 3, none⟩ d) :=
  ((((Only.setCell w ⟨Z, 0, none⟩ a).put ⟨Z, 1, none⟩ b (.inl rfl)).put ⟨Z, 2, none⟩ c (.inl rfl)).put ⟨Z, 3, none⟩ d (.inl rfl))
/-- A node and a word come out. -/
theorem outN {fn : Func} {p q : Tmp} {W : World} {a : Act} {Z : Nat} {v0 v1 v2 v3 v : Value} {Post : Ending → World → Prop} (hf : fn.results = #[.cell p 25, .tmp q]) (hd : a.defers = []) (ht : a.tmps.getD p undef = .pointer (some ⟨Z, 0, none⟩)) (hv : a.tmps.getD q undef = v) (h : W.heap[Z]? = some (.cells #[v0, v1, v2, v3] 25 (0, 0))) (hp : Post (.returned (.tuple #[.agg #[v0, v1, v2, v3], v])) W) : bodyPost Tryz.prog fn Post .ret a W := by
  obtain ⟨e0, e1, e2, e3⟩ := box4 h (Below.refl _ _) (lt_of_row h)
  subst hv
  exact bodyPost_ret (results_n2 hf _ _ Z _ _ _ _ ht e0 e1 e2 e3) hd hp
theorem ret_nb {v : Value} (n : Nat) : Ending.returned (.tuple #[v, .bool ((n : Int) == 0)]) = .returned (.tuple #[v, .bool (decide (n = 0))]) := by
  rw [show ((n : Int) == 0) = decide (n = 0) by rw [Bool.eq_iff_iff]; simp]
theorem Rd.rebase {w00 w0 w : World} {b g : Nat} {s : Bs × Nat} (h : Rd w0 b g s w) (hb : Below w00.heap.size w00 w0) : Rd w00 b g s w :=
  ⟨h.1, hb.trans (h.2.1.mono hb.size), Nat.le_trans hb.size h.2.2.1, Nat.le_trans hb.size h.2.2.2⟩
/-- What is read of a leaf's body: keys, values, and where the Reader stands. -/
def gF : Nat → Bs × Nat → List Bs × List Bs × (Bs × Nat)
  | 0, s => ([], [], s)
  | n + 1, s => ((gF n s).1 ++ [tv 36 (gF n s).2.2], (gF n s).2.1 ++ [tv 200 (ts 36 (gF n s).2.2)], ts 200 (ts 36 (gF n s).2.2))
theorem gF_short (n : Nat) (s : Bs × Nat) : (gF n s).2.2.1.length ≤ s.1.length := by
  induction n with
  | zero => exact Nat.le_refl _
  | succ n ih => exact Nat.le_trans (ts_len _ _) (Nat.le_trans (ts_len _ _) ih)
theorem gF_len (n : Nat) (s : Bs × Nat) : (gF n s).1.length = n ∧ (gF n s).2.1.length = n := by
  induction n with
  | zero => exact ⟨rfl, rfl⟩
  | succ n ih => simp [gF, ih]
def gN (x : Bs) : Nat := (rv 1 (x, 0)).toNat
def gK (x : Bs) : List Bs := (gF (gN x) (rs 1 (x, 0))).1
def gV (x : Bs) : List Bs := (gF (gN x) (rs 1 (x, 0))).2.1
def gE (x : Bs) : Nat := rDone (gF (gN x) (rs 1 (x, 0))).2.2.1 (gF (gN x) (rs 1 (x, 0))).2.2.2
theorem guess_leaf (nu bi : Int) (la : Option Addr) (ln lc : Nat) (x : Bs) (w : World) (hx : x.length ≤ 4294967296)
    (HD : ∀ b g off cap W, Below w.heap.size w W → RAt b g off cap (gF (gN x) (rs 1 (x, 0))).2.2.1 (gF (gN x) (rs 1 (x, 0))).2.2.2 W → Calls Tryz.prog 95 #[ptr b] W fun e w' => e = .returned (I (gE x)) ∧ Below W.heap.size W w') :
    Calls Tryz.prog 63 #[.agg #[I 1, I nu, I bi, .slice la ln lc, S x]] w fun e w' => ∃ vK vV, e = .returned (.tuple #[.agg #[.bool true, vK, vV, .slice none 0 0], .bool (decide (gE x = 0))]) ∧ w'.ownsRow 0 9 1 vK (gK x).length ((gK x).map S) ∧ w'.ownsRow 0 9 1 vV (gV x).length ((gV x).map S) ∧ (∀ i, vK.ownBlock = some i → w.heap.size ≤ i) ∧ (∀ i, vV.ownBlock = some i → w.heap.size ≤ i) ∧ (∀ i, vK.ownBlock = some i → vV.ownBlock ≠ some i) ∧ Below w.heap.size w w' := by
  have hn0 := rv_lo 1 (x, 0)
  have hn1 := rv_hi1 (x, 0)
  have hgn : rv 1 (x, 0) = ((gN x : Nat) : Int) := by unfold gN; omega
  have hn2 : gN x ≤ 255 := by omega
  have hlr : (rs 1 (x, 0)).1.length ≤ 4294967296 := Nat.le_trans (rGo_len _ _ _ _) hx
  have LF := hide (fun k => Nat.le_trans (gF_short k (rs 1 (x, 0))) hlr)
  have HK : Hid (gK x = (gF (gN x) (rs 1 (x, 0))).1) := rfl
  have HV : Hid (gV x = (gF (gN x) (rs 1 (x, 0))).2.1) := rfl
  have HDD := hide HD
  clear HD
  generalize gK x = gk at *
  generalize gV x = gv at *
  generalize gE x = ge at *
  have hA := (Below.refl w.heap.size w).alloc (Nat.le_refl _) (.cells #[I 1, I nu, I bi, .slice la ln lc, S x] 27)
  have hg := heap_alloc_new w (.cells #[I 1, I nu, I bi, .slice la ln lc, S x] 27)
  have hz := lt_of_row hg
  have hs1 := size_alloc w (.cells #[I 1, I nu, I bi, .slice la ln lc, S x] 27)
  generalize hW1 : w.alloc (.cells #[I 1, I nu, I bi, .slice la ln lc, S x] 27) = W1 at hA hg hz hs1
  have hA2 := hA.alloc hA.size (.cells #[.bool false, .slice none 0 0, .slice none 0 0, .slice none 0 0] 25)
  have hp := heap_alloc_new W1 (.cells #[.bool false, .slice none 0 0, .slice none 0 0, .slice none 0 0] 25)
  have hg2 := (heap_alloc_old W1 (.cells #[.bool false, .slice none 0 0, .slice none 0 0, .slice none 0 0] 25) hz).trans hg
  have hs2 := size_alloc W1 (.cells #[.bool false, .slice none 0 0, .slice none 0 0, .slice none 0 0] 25)
  generalize hW2 : W1.alloc (.cells #[.bool false, .slice none 0 0, .slice none 0 0, .slice none 0 0] 25) = W2 at hA2 hp hg2 hs2
  have hq := heap_alloc_new W2 (.cells #[.bool false, .slice none 0 0, .slice none 0 0, .slice none 0 0] 25)
  have hb3 := (Below.refl W2.heap.size W2).alloc (Nat.le_refl _) (.cells #[.bool false, .slice none 0 0, .slice none 0 0, .slice none 0 0] 25)
  have ht := setRow_heap _ _ _ #[.bool true, .slice none 0 0, .slice none 0 0, .slice none 0 0] 25 _ hq
  have hb4 := (setRow_only (W2.alloc (.cells #[.bool false, .slice none 0 0, .slice none 0 0, .slice none 0 0] 25)) W2.heap.size #[.bool true, .slice none 0 0, .slice none 0 0, .slice none 0 0]).below hb3 hb3.size (fun k e => by omega)
  have HQ := hide hq
  clear hq hb3
  generalize hW3 : (W2.alloc (.cells #[.bool false, .slice none 0 0, .slice none 0 0, .slice none 0 0] 25)).setRow W2.heap.size #[.bool true, .slice none 0 0, .slice none 0 0, .slice none 0 0] = W3 at ht hb4
  obtain ⟨c0, c1, c2, c3, c4⟩ := box5 hg2 (Below.refl _ _) (lt_of_row hg2)
  have hzz : w.heap.size < W2.heap.size := by omega
  obtain ⟨d0, d1, d2, d3, d4⟩ := box5 hg2 hb4 hzz
  obtain ⟨e0, e1, e2, e3⟩ := box4 ht (Below.refl _ _) (lt_of_row ht)
  have hl3 := lt_of_row ht
  have hl3' : w.heap.size < W3.heap.size := by omega
  have HA2 := hide hA2
  have HG2 := hide hg2
  have HP := hide hp
  have HT3 := hide ht
  have HB4 := hide hb4
  have H0 := hide (Rd.new x W3)
  clear hA hg hz hA2 hp hg2 hb4 ht
  have HXS := hide (show W1.heap.size = w.heap.size + 1 ∧ W2.heap.size = W1.heap.size + 1 from ⟨hs1, hs2⟩)
  have HGN := hide hgn
  clear hgn hn0 hn1 hs1 hs2
  have HW3 := hide hW3
  clear hW3
  go_enter Tryz.func63, Tryz.ntmps63
  go_wp2_with (refine wp_st25 rfl (.tmp 4) (.tmp 9) rfl W2.heap.size (by rfl) true none none none 0 0 0 0 0 0 (by rfl) _ rfl (unhide HQ) ?_; rw [unhide HW3])
  refine (unhide H0).mono ?_
  rintro e w1 ⟨b, g, rfl, h1⟩
  clear c0 c1 c2 c3 c4 d0 d1 d2 d3 d4 e0 e1 e2 e3 hW1 hW2 HW3 HQ H0
  have hG : Ge W2 W2.heap.size b g true [] [] [] (.slice none 0 0) (.slice none 0 0) (.slice none 0 0) (x, 0) w1 := by
    have hr := h1.2.1
    obtain ⟨⟨off, cap, r1⟩, r2, r3, r4⟩ := h1
    exact ⟨(hr.block _ hl3).trans (unhide HT3), owns_nil _ _ _, owns_nil _ _ _, owns_nil _ _ _, Rd.rebase ⟨⟨off, cap, r1⟩, r2, r3, r4⟩ (unhide HB4), Nat.le_refl _, (fun i hi => nomatch hi), (fun i hi => nomatch hi), (fun i hi => nomatch hi), by omega, (fun i hi => nomatch hi)⟩
  have H1 := hide (hG.rd.num' 1 hx)
  have HG := hide hG
  clear hG h1 hl3 hl3' HT3 HB4 W3
  have HT : Hid (W2.heap.size ≤ W2.heap.size) := Nat.le_refl _
  go_wp2_with fail
  refine (unhide H1).mono ?_
  rintro e w2 ⟨rfl, h2, o2⟩
  have G2 := hide ((unhide HG).read h2 o2)
  clear h2 o2 HG H1
  rw [unhide HGN]
  clear HGN
  generalize gN x = n at *
  generalize hs0 : rs 1 (x, 0) = s0 at *
  clear hs0
  go_wp2
  go_loopw [22] (fun i wr => ∃ k : Nat, k ≤ n ∧ i = .int .i64 k ∧ ∃ vK vV, Ge W2 W2.heap.size b g true (gF k s0).1 (gF k s0).2.1 [] vK vV (.slice none 0 0) (gF k s0).2.2 wr) (fun i _ => n - (Go.RowKit.intOf i).toNat)
  case atStart => exact ⟨0, by omega, rfl, _, _, unhide G2⟩
  case round =>
    clear G2
    obtain ⟨k, hk, rfl, vK, vV, hG⟩ := hrel
    by_cases hlt : k < n
    · have hlt' : (k : Int) < (n : Int) := by omega
      have HS := hide (show gF (k + 1) s0 = ((gF k s0).1 ++ [tv 36 (gF k s0).2.2], (gF k s0).2.1 ++ [tv 200 (ts 36 (gF k s0).2.2)], ts 200 (ts 36 (gF k s0).2.2)) from rfl)
      have hl := gF_len k s0
      have hls := unhide LF k
      obtain ⟨K, hK⟩ : ∃ K, K = (gF k s0).1 := ⟨_, rfl⟩
      obtain ⟨V, hV⟩ : ∃ V, V = (gF k s0).2.1 := ⟨_, rfl⟩
      obtain ⟨st, hst⟩ : ∃ st, st = (gF k s0).2.2 := ⟨_, rfl⟩
      rw [← hK, ← hV] at hl
      rw [← hst] at hls
      rw [← hK, ← hV, ← hst] at hG HS
      clear hK hV hst
      obtain ⟨hlK, hlV⟩ := hl
      have hls2 := Nat.le_trans (ts_len 36 st) hls
      obtain ⟨pK, cK, rfl⟩ := owns_form hG.rK
      obtain ⟨pV, cV, rfl⟩ := owns_form hG.rV
      have hGd := hG.below (Below.refl _ _).drew
      have HGd := hide hGd
      have HN := hide (hGd.rd.text 36 hls)
      obtain ⟨c0, c1, c2, c3⟩ := hG.cells
      have hTl := lt_of_row hG.blk
      clear hG hGd
      generalize hT : W2.heap.size = T at c0 c1 c2 c3 hTl HGd ⊢
      generalize hz : tv 36 st = z at *
      generalize hs1 : ts 36 st = st1 at *
      generalize hz2 : tv 200 st1 = z2 at *
      have HLK := hide hlK
      have HLV := hide hlV
      rw [hlK] at c1
      rw [hlV] at c2
      rw [hlK, hlV] at HGd
      have hkb : K.length + 1 ≤ 1000000 := by omega
      have hvb : V.length + 1 ≤ 1000000 := by omega
      clear hz hs1 hlK hlV
      go_wp2
      go_region_law (first
        | (refine step_calls (f := 94) Tryz.func94 (by kernel_rfl) rfl rfl _ _ rfl #[ptr b, I 36] (by simp [Act.eval, Act.put]) (S z) (fun w' => Rd W2 b g st1 w' ∧ Only (fun k => k = b) wr.drew w') (unhide HN) ?_; rintro w2 ⟨r2, o2⟩; have G2 := (unhide HGd).read r2 o2; obtain ⟨-, c5, -, -⟩ := G2.cells; have t2 := lt_of_row G2.blk; have HG2 := hide G2; clear G2 r2 o2)
        | (refine step_pushS rfl (.tmp 25) (.tmp 28) rfl (.slice pK k cK) K.length (K.map S) (by rfl) w2 z (unhide HG2).rK (by rfl) (by omega) ?_; intro p3 cap3 w3 r3 o3 n3; have e3 := (o3.block T t2 (fun e => ((unhide HG2).nr (unhide HG2).rK (by decide) (by decide) T e).1 rfl)).trans (unhide HG2).blk; have c6 : w3.cell? ⟨T, 1, none⟩ = some (.slice pK k cK) := cell_of_row w3 _ 1 _ 25 (0, 0) e3; have f6 := frz e3 1; have HG3 := hide ((unhide HG2).pushK z r3 o3 n3); clear r3 o3 n3 e3))
      all_goals (
        have G4 := unhide HG3
        have hTl4 := lt_of_row G4.blk
        obtain ⟨d0, d1, d2, d3⟩ := G4.cells
        have HGe := hide (G4.below (Below.refl _ _).drew)
        have HN2 := hide ((unhide HGe).rd.text 200 hls2)
        clear HG2 HG3 G4 c6 f6 c5 c0 c1 c2 c3 hTl t2
        generalize w3.setCell ⟨T, 1, none⟩ (.slice p3 (K.length + 1) cap3) = w4 at *
        generalize K ++ [z] = K2 at *
        generalize hK3 : Value.slice p3 (K.length + 1) cap3 = vK at *
        clear hK3
        rw [hz2] at HN2
        go_wp2
        go_region_law (first
          | (refine step_calls (f := 94) Tryz.func94 (by kernel_rfl) rfl rfl _ _ rfl #[ptr b, I 200] (by simp [Act.eval, Act.put]) (S z2) (fun w' => Rd W2 b g (ts 200 st1) w' ∧ Only (fun k => k = b) w4.drew w') (unhide HN2) ?_; rintro w5 ⟨r2, o2⟩; have G2 := (unhide HGe).read r2 o2; obtain ⟨-, -, c5, -⟩ := G2.cells; have t2 := lt_of_row G2.blk; have HG2 := hide G2; clear G2 r2 o2)
          | (refine step_pushS rfl (.tmp 34) (.tmp 37) rfl (.slice pV k cV) V.length (V.map S) (by rfl) w5 z2 (unhide HG2).rV (by rfl) (by omega) ?_; intro p6 cap6 w6 r3 o3 n3; have e3 := (o3.block T t2 (fun e => ((unhide HG2).nr (unhide HG2).rV (by decide) (by decide) T e).1 rfl)).trans (unhide HG2).blk; have c6 : w6.cell? ⟨T, 2, none⟩ = some (.slice pV k cV) := cell_of_row w6 _ 2 _ 25 (0, 0) e3; have f6 := frz e3 2; have HG3 := hide ((unhide HG2).pushV z2 r3 o3 n3); clear r3 o3 n3 e3))
        all_goals go_wp2
        all_goals (
          go_roundw
          case rel => exact ⟨k + 1, by omega, by go_num, _, _, by rw [unhide HS]; exact unhide HG3⟩
          case measure => simp [Go.RowKit.intOf]; omega))
    · have hlt' : ¬ (k : Int) < (n : Int) := by omega
      obtain rfl : k = n := by omega
      have hbw : Below w.heap.size w wr.drew := ((unhide HA2).trans (hG.rd.2.1.mono (unhide HA2).size)).drew
      have hGd := hG.below (Below.refl _ _).drew
      obtain ⟨⟨off, cap, hra⟩, -, -, -⟩ := hGd.rd
      have HN := hide (unhide HDD b g off cap wr.drew hbw hra)
      obtain ⟨pK, cK, rfl⟩ := owns_form hG.rK
      obtain ⟨pV, cV, rfl⟩ := owns_form hG.rV
      have hXS := unhide HXS
      have hp := (hGd.rd.2.1.block _ (show W1.heap.size < W2.heap.size by omega)).trans (unhide HP)
      have HPd := hide hp
      have hpl := lt_of_row hp
      have HG := hide hGd
      have HBW := hide hbw
      obtain ⟨c0, c1, c2, c3⟩ := hGd.cells
      have hTl := lt_of_row hGd.blk
      have hlen := gF_len k s0
      rw [hlen.1] at c1
      rw [hlen.2] at c2
      have HLN := hide hlen
      clear hG hbw hGd hra hXS hp hlen
      generalize hT : W2.heap.size = T at c0 c1 c2 c3 hTl HG ⊢
      rw [(unhide HLN).1, (unhide HLN).2] at HG
      go_wp2
      go_region_law (first
        | (refine step_calls (f := 95) Tryz.func95 (by kernel_rfl) rfl rfl _ _ rfl #[ptr b] (by simp [Act.eval, Act.put]) (I ge) (fun w' => Below wr.drew.heap.size wr.drew w') (unhide HN) ?_; intro w2 b2; have G2 := (unhide HG).below b2; obtain ⟨d0, d1, d2, d3⟩ := G2.cells; have t2 := lt_of_row G2.blk; have hp2 := (b2.block _ hpl).trans (unhide HPd); have f2 := frz hp2; have f20 := f2 0; have f21 := f2 1; have f22 := f2 2; have f23 := f2 3; obtain ⟨g0, g1, g2, g3⟩ := box4 hp2 (Below.refl _ _) (lt_of_row hp2); have HP2 := hide hp2; have HG2 := hide G2; have HB2 := hide b2; clear G2 b2 f2 hp2))
      all_goals (
        go_wp2
        have hXS := unhide HXS
        have G2 := unhide HG2
        have bb := (unhide HBW).trans ((unhide HB2).mono (unhide HBW).size)
        have o4 := set4_only w2 W1.heap.size (.bool true) (.slice pK k cK) (.slice pV k cV) (.slice none 0 0)
        have h4 := set4 (unhide HP2) rfl (.bool true) (.slice pK k cK) (.slice pV k cV) (.slice none 0 0)
        have b4 := o4.below bb bb.size (fun i e => by omega)
        refine outN (p := 2) (q := 3) rfl (by rfl) (by rfl) (by rfl) h4 ⟨_, _, ?_, ?_, ?_, fun i hi => ?_, fun i hi => ?_, G2.ne, b4⟩
        · exact ret_nb ge
        · rw [unhide HK]
          exact owns_only G2.rK o4 (fun i hi e => by have := (G2.hK i hi).1; omega)
        · rw [unhide HV]
          exact owns_only G2.rV o4 (fun i hi e => by have := (G2.hV i hi).1; omega)
        · have := (G2.hK i hi).1; omega
        · have := (G2.hV i hi).1; omega)
end Go.Proofs.YtllialbdofklgaaGreatDoor
namespace Go.Proofs.YtllialbdofklgaaGreatDoor
open Go.RowKit
set_option maxHeartbeats 16000000
set_option maxRecDepth 8000
theorem isNodes_leaf (nu bi : Int) (la : Option Addr) (lc : Nat) (x : Bs) (w : World) :
    Calls Tryz.prog 62 #[.agg #[I 1, I nu, I bi, .slice la 0 lc, S x]] w fun e w' => e = .returned (.bool true) ∧ Below w.heap.size w w' := by
  have HA := hide ((Below.refl w.heap.size w).alloc (Nat.le_refl _) (.cells #[I 1, I nu, I bi, .slice la 0 lc, S x] 27))
  go_enter Tryz.func62, Tryz.ntmps62
  go_wp2
  go_ret
  exact ⟨rfl, unhide HA⟩
theorem parse_leaf (nu bi : Int) (la : Option Addr) (lc : Nat) (x : Bs) (w : World) (hx : x.length ≤ 4294967296) (hE : gE x = 0) (hw : wrl ⟨true, gK x, gV x, []⟩ = 0)
    (HD : ∀ b g off cap W, Below w.heap.size w W → RAt b g off cap (gF (gN x) (rs 1 (x, 0))).2.2.1 (gF (gN x) (rs 1 (x, 0))).2.2.2 W → Calls Tryz.prog 95 #[ptr b] W fun e w' => e = .returned (I (gE x)) ∧ Below W.heap.size W w') :
    Calls Tryz.prog 34 #[.agg #[I 1, I nu, I bi, .slice la 0 lc, S x]] w fun e w' => ∃ vK vV, e = .returned (.tuple #[.agg #[.bool true, vK, vV, .slice none 0 0], I 0]) ∧ w'.ownsRow 0 9 1 vK (gK x).length ((gK x).map S) ∧ w'.ownsRow 0 9 1 vV (gV x).length ((gV x).map S) ∧ (∀ i, vK.ownBlock = some i → w.heap.size ≤ i) ∧ (∀ i, vV.ownBlock = some i → w.heap.size ≤ i) ∧ (∀ i, vK.ownBlock = some i → vV.ownBlock ≠ some i) ∧ Below w.heap.size w w' := by
  have hNB : NB ⟨true, gK x, gV x, []⟩ := by
    have h := hw
    unfold wrl at h
    cases h1 : hfl ⟨true, gK x, gV x, []⟩
    · rw [h1] at h; cases h
    cases h2 : kok (gK x)
    · simp only [h1, h2] at h; cases h
    simp only [h1, h2, if_true] at h
    have h3 : ¬ 480 < Nd.siz ⟨true, gK x, gV x, []⟩ := fun q => by rw [if_pos q] at h; cases h
    unfold Nd.siz at h3
    simp only [if_true] at h3
    refine ⟨?_, ?_, ?_, ?_, ?_⟩ <;> simp only [List.length_nil] <;> omega
  have hA := (Below.refl w.heap.size w).alloc (Nat.le_refl _) (.cells #[I 1, I nu, I bi, .slice la 0 lc, S x] 27)
  have hg := heap_alloc_new w (.cells #[I 1, I nu, I bi, .slice la 0 lc, S x] 27)
  have hz := lt_of_row hg
  have hs1 := size_alloc w (.cells #[I 1, I nu, I bi, .slice la 0 lc, S x] 27)
  generalize hW1 : w.alloc (.cells #[I 1, I nu, I bi, .slice la 0 lc, S x] 27) = W1 at hA hg hz hs1
  have hA2 := hA.alloc hA.size (.cells #[.bool false, .slice none 0 0, .slice none 0 0, .slice none 0 0] 25)
  have hp := heap_alloc_new W1 (.cells #[.bool false, .slice none 0 0, .slice none 0 0, .slice none 0 0] 25)
  have hg2 := (heap_alloc_old W1 (.cells #[.bool false, .slice none 0 0, .slice none 0 0, .slice none 0 0] 25) hz).trans hg
  have hs2 := size_alloc W1 (.cells #[.bool false, .slice none 0 0, .slice none 0 0, .slice none 0 0] 25)
  generalize hW2 : W1.alloc (.cells #[.bool false, .slice none 0 0, .slice none 0 0, .slice none 0 0] 25) = W2 at hA2 hp hg2 hs2
  obtain ⟨c0, c1, c2, c3, c4⟩ := box5 hg2 (Below.refl _ _) (lt_of_row hg2)
  have hz2 := lt_of_row hg2
  have hz3 := lt_of_row hp
  have HA2 := hide hA2
  have HG2 := hide hg2
  have HP := hide hp
  have HXS := hide (show W1.heap.size = w.heap.size + 1 ∧ W2.heap.size = W1.heap.size + 1 from ⟨hs1, hs2⟩)
  have H0 := hide (isNodes_leaf nu bi la lc x W2)
  have H1 := hide (fun W (q : Below W2.heap.size W2 W) => guess_leaf nu bi la 0 lc x W hx (fun b g off cap W' b' hr => HD b g off cap W' ((hA2.trans (q.mono hA2.size)).trans (b'.mono (Nat.le_trans hA2.size q.size))) hr))
  rw [hE] at H1
  have HW := hide hw
  have HNB := hide hNB
  clear HD hE hw hNB hA hg hz hA2 hp hg2 hs1 hs2
  generalize gK x = gk at *
  generalize gV x = gv at *
  go_enter Tryz.func34, Tryz.ntmps34
  go_wp2_with fail
  refine (unhide H0).mono ?_
  rintro e w1 ⟨rfl, b1⟩
  clear c0 c1 c2 c3 c4 hW1 hW2
  obtain ⟨c0, c1, c2, c3, c4⟩ := box5 (unhide HG2) b1 hz2
  have hz4 := Nat.lt_of_lt_of_le hz2 b1.size
  have h1 := hide (unhide H1 w1 b1)
  have HB1 := hide b1
  clear b1 H1 H0
  go_wp2_with fail
  refine (unhide h1).mono ?_
  rintro e w2 ⟨vK, vV, rfl, rK, rV, oK, oV, ne, b2⟩
  have bb := (unhide HB1).trans (b2.mono (unhide HB1).size)
  have hp2 := (bb.block _ hz3).trans (unhide HP)
  obtain ⟨pK, cK, rfl⟩ := owns_form rK
  obtain ⟨pV, cV, rfl⟩ := owns_form rV
  have hq := heap_alloc_new w2 (.cells #[.bool false, .slice none 0 0, .slice none 0 0, .slice none 0 0] 25)
  have hb3 := (Below.refl w2.heap.size w2).alloc (Nat.le_refl _) (.cells #[.bool false, .slice none 0 0, .slice none 0 0, .slice none 0 0] 25)
  have ht := setRow_heap _ _ _ #[.bool true, .slice pK gk.length cK, .slice pV gv.length cV, .slice none 0 0] 25 _ hq
  have hb4 := (setRow_only (w2.alloc (.cells #[.bool false, .slice none 0 0, .slice none 0 0, .slice none 0 0] 25)) w2.heap.size #[.bool true, .slice pK gk.length cK, .slice pV gv.length cV, .slice none 0 0]).below hb3 hb3.size (fun k e => by omega)
  have HQ := hide hq
  clear hq hb3
  generalize hW3 : (w2.alloc (.cells #[.bool false, .slice none 0 0, .slice none 0 0, .slice none 0 0] 25)).setRow w2.heap.size #[.bool true, .slice pK gk.length cK, .slice pV gv.length cV, .slice none 0 0] = W3 at ht hb4
  have HW3 := hide hW3
  have rK3 := owns_below rK hb4
  have rV3 := owns_below rV hb4
  have hna : NA ⟨true, gk, gv, []⟩ pK pV none W3 := by
    obtain ⟨p, c, e1, s1, _⟩ := Sts.of rK3
    obtain ⟨p', c', e2, s2, _⟩ := Sts.of rV3
    cases e1
    cases e2
    exact ⟨s1, s2, Ins.nil _ _⟩
  have H2 : Hid (Calls Tryz.prog 59 #[.agg #[.bool true, .slice pK gk.length cK, .slice pV gv.length cV, .slice none 0 0]] W3 fun e w' => e = .returned (I 0) ∧ Below W3.heap.size W3 w') := by
    have q := wrong_leaf ⟨true, gk, gv, []⟩ pK pV none cK cV 0 W3 hna (unhide HNB) rfl
    rw [unhide HW] at q
    exact q
  obtain ⟨d0, d1, d2, d3⟩ := box4 ht (Below.refl _ _) (lt_of_row ht)
  have hl3 := lt_of_row ht
  have bbb := bb.trans (hb4.mono bb.size)
  have hp3 := (bbb.block _ hz3).trans (unhide HP)
  have HT := hide ht
  have HP3 := hide hp3
  have HB3 := hide ((unhide HA2).trans (bbb.mono (unhide HA2).size))
  have HRK := hide rK3
  have HRV := hide rV3
  have hl4 := lt_of_row hp3
  have HX := hide (show W2.heap.size ≤ w2.heap.size from bb.size)
  have HO := hide (show (∀ i, (Value.slice pK gk.length cK).ownBlock = some i → w1.heap.size ≤ i) ∧ (∀ i, (Value.slice pV gv.length cV).ownBlock = some i → w1.heap.size ≤ i) ∧ (∀ i, (Value.slice pK gk.length cK).ownBlock = some i → (Value.slice pV gv.length cV).ownBlock ≠ some i) ∧ W2.heap.size ≤ w1.heap.size from ⟨oK, oV, ne, (unhide HB1).size⟩)
  clear hW3 rK rV rK3 rV3 oK oV ne b2 bb hp2 hna ht hb4 bbb hp3 c0 c1 c2 c3 c4
  generalize hkl : gk.length = kl at *
  generalize hvl : gv.length = vl at *
  have HKL := hide hkl
  have HVL := hide hvl
  clear hkl hvl
  go_wp2_with (first | (refine wp_st25 rfl (.tmp 4) (.tmp 13) rfl w2.heap.size (by rfl) true pK pV none kl cK vl cV 0 0 (by rfl) _ rfl (unhide HQ) ?_; rw [unhide HW3]) | fail)
  refine (unhide H2).mono ?_
  rintro e w4 ⟨rfl, b4⟩
  clear d0 d1 d2 d3 HW3 HQ H2
  obtain ⟨d0, d1, d2, d3⟩ := box4 (unhide HT) b4 hl3
  have hp4 := (b4.block _ hl4).trans (unhide HP3)
  have hl5 := Nat.lt_of_lt_of_le hl3 b4.size
  have HP4 := hide hp4
  have HB4 := hide b4
  clear b4 hp4
  go_wp2_with (first | (refine wp_st25 rfl (.tmp 2) (.tmp 23) rfl W1.heap.size (by rfl) true pK pV none kl cK vl cV 0 0 (by rfl) _ rfl (unhide HP4) ?_) | fail)
  have h4 := setRow_heap _ _ _ #[.bool true, .slice pK kl cK, .slice pV vl cV, .slice none 0 0] 25 _ (unhide HP4)
  have oF := setRow_only w4 W1.heap.size #[.bool true, .slice pK kl cK, .slice pV vl cV, .slice none 0 0]
  have hXS := unhide HXS
  obtain ⟨oK, oV, ne, oS⟩ := unhide HO
  have hbb := (unhide HB3).trans ((unhide HB4).mono (unhide HB3).size)
  refine outN (p := 2) (q := 3) rfl (by rfl) (by rfl) (by rfl) h4 ⟨_, _, rfl, ?_, ?_, fun i hi => ?_, fun i hi => ?_, ne, oF.below hbb hbb.size (fun i e => by omega)⟩
  · rw [unhide HKL]
    exact owns_only (owns_below (unhide HRK) (unhide HB4)) oF (fun i hi e => by have := oK i hi; omega)
  · rw [unhide HVL]
    exact owns_only (owns_below (unhide HRV) (unhide HB4)) oF (fun i hi e => by have := oV i hi; omega)
  · have := oK i hi; omega
  · have := oV i hi; omega
end Go.Proofs.YtllialbdofklgaaGreatDoor
