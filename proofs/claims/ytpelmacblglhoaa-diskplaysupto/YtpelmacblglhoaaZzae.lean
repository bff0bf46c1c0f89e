import Derived.Test.YtpelmacblglhoaaDsd
namespace Go.Proofs.Ytpelmacblglhoaa
open Go.RowKit
set_option maxHeartbeats 4000000
set_option maxRecDepth 8000
def zs : Bs := List.replicate 512 0
/-- A new disk on which these last. -/
def Ds.new (l : List Bs) : Ds := { ws := [], last := l, fuse := 0, dead := false, acts := 0 }
theorem new_at {w : World} {V : Value} {l : List Bs} (h : w.ownsRow 0 9 1 V l.length (l.map S)) : DAt w.heap.size (Ds.new l) (.slice none 0 0) V (w.alloc (.cells #[.slice none 0 0, V, I 0, .bool false, I 0] 87)) :=
  ⟨heap_alloc_new _ _, owns_nil _ _ _, owns_alloc h _⟩
theorem zs_eq : (⟨(Lib.repeatL [0] 512).toArray⟩ : ByteArray) = ⟨zs.toArray⟩ := by
  congr 2
theorem new_any (n : Int) (w : World) (hn : -9223372036854775808 ≤ n ∧ n ≤ 9223372036854775807) :
    Calls Try.prog 18 #[I n] w fun e w' => (mayv n = false ∧ e = .returned (.tuple #[.pointer none, I 1]) ∧ w' = w) ∨
      (mayv n = true ∧ ∃ D V, e = .returned (.tuple #[ptr D, I 0]) ∧ DAt D (Ds.new (List.replicate n.toNat zs)) (.slice none 0 0) V w' ∧ (∀ k, Of D (.slice none 0 0) V k → w.heap.size ≤ k) ∧ Below w.heap.size w w') := by
  have H1 := hide (fun W => mayHave_any n W)
  by_cases hm : mayv n = true
  · obtain ⟨h8, h9⟩ : 8 ≤ n ∧ n ≤ 4096 := by simpa [mayv] using hm
    rw [hm] at H1
    obtain ⟨c, rfl⟩ : ∃ c : Nat, n = (c : Int) := ⟨n.toNat, by omega⟩
    have h2 := Try.strings_Repeat ⟨#[0]⟩ 512 w (by omega) (by decide)
    rw [show (⟨#[0]⟩ : ByteArray).data.toList = [0] from rfl, zs_eq] at h2
    have H2 := hide h2
    clear h2
    have HM := hide hm
    clear hm
    generalize zs = z at *
    go_enter Try.func18, Try.ntmps18
    go_wp2_with fail
    refine (unhide H1 _).mono ?_
    rintro e w0 ⟨rfl, rfl⟩
    go_wp2_with fail
    refine (unhide H2).mono ?_
    rintro e w1 ⟨rfl, b1⟩
    have HB1 := hide b1
    have s1 := b1.size
    clear b1
    have H3 := hide (repeat_any w1.heap.size 1 z c (w1.alloc (.cells #[S z] 9)) (by rw [cell_of_row _ _ 0 _ 9 (0, 0) (heap_alloc_new _ _)]; rfl) (by omega) (by omega))
    go_wp2_with fail
    refine (unhide H3).mono ?_
    rintro e w2 ⟨rfl, o2, b2⟩
    have HB2 := hide ((unhide HB1).trans ((((Below.refl _ w1).alloc (Nat.le_refl _) (.cells #[S z] 9)).trans (b2.mono (by simp))).mono s1))
    have HO2 := hide (new_at (l := List.replicate c z) (by simpa using o2))
    have s2 := (unhide HB2).size
    clear o2 b2
    go_wp2
    go_ret2
    refine .inr ⟨unhide HM, w2.heap.size, _, rfl, by simpa using unhide HO2, ?_, (unhide HB2).alloc s2 _⟩
    rintro k (rfl | hk | hk)
    · exact s2
    · cases hk
    · cases hk
      simp
      omega
  · have hm2 : mayv n = false := by simpa using hm
    rw [hm2] at H1
    go_enter Try.func18, Try.ntmps18
    go_wp2_with fail
    refine (unhide H1 _).mono ?_
    rintro e w0 ⟨rfl, rfl⟩
    go_wp2
    go_ret2
    exact .inl ⟨hm2, rfl, rfl⟩
def loadv (l : List Bs) : Int := if mayv l.length = false then 1 else if allR l = false then 81 else 0
theorem load_any (a : Option Addr) (n cap : Nat) (l : List Bs) (w : World) (hp : Sts w a n l) (hn : n ≤ 1000000000000) :
    Calls Try.prog 21 #[.slice a n cap] w fun e w' => (loadv l ≠ 0 ∧ e = .returned (.tuple #[.pointer none, I (loadv l)]) ∧ w' = w) ∨
      (loadv l = 0 ∧ ∃ D V, e = .returned (.tuple #[ptr D, I 0]) ∧ DAt D (Ds.new l) (.slice none 0 0) V w' ∧ (∀ k, Of D (.slice none 0 0) V k → w.heap.size ≤ k) ∧ Below w.heap.size w w') := by
  have hN := hp.1
  subst hN
  have H1 := hide (fun W => mayHave_any (l.length : Int) W)
  have H2 := hide (containsFunc_any a _ cap l w hp hn)
  by_cases hm : mayv (l.length : Int) = true
  · rw [hm] at H1
    cases hr : allR l with
    | true =>
      have hl0 : loadv l = 0 := by simp [loadv, hm, hr]
      have H3 := hide (copies_any a _ cap l w hp (fun x hx => by
        have := List.all_eq_true.1 hr x hx
        have e : x.length = 512 := by simpa using this
        omega) hn)
      rw [hr] at H2
      clear hp
      go_enter Try.func21, Try.ntmps21
      go_wp2_with fail
      refine (unhide H1 _).mono ?_
      rintro e w0 ⟨rfl, rfl⟩
      go_wp2_with fail
      refine (unhide H2).mono ?_
      rintro e w0 ⟨rfl, rfl⟩
      go_wp2_with fail
      refine (unhide H3).mono ?_
      rintro e w1 ⟨V, rfl, o1, n1, b1⟩
      obtain ⟨p, c1, rfl⟩ := owns_form o1
      have HO := hide (new_at o1)
      have HB := hide b1
      have HN := hide n1
      clear o1 n1 b1
      go_wp2
      go_ret2
      refine .inr ⟨hl0, w1.heap.size, _, rfl, unhide HO, ?_, (unhide HB).alloc (unhide HB).size _⟩
      rintro k (rfl | hk | hk)
      · exact (unhide HB).size
      · cases hk
      · exact unhide HN k hk
    | false =>
      have hl0 : loadv l = 81 := by simp [loadv, hm, hr]
      rw [hr] at H2
      clear hp
      go_enter Try.func21, Try.ntmps21
      go_wp2_with fail
      refine (unhide H1 _).mono ?_
      rintro e w0 ⟨rfl, rfl⟩
      go_wp2_with fail
      refine (unhide H2).mono ?_
      rintro e w0 ⟨rfl, rfl⟩
      go_wp2
      go_ret2
      exact .inl ⟨by rw [hl0]; decide, by rw [hl0]; rfl, rfl⟩
  · have hm2 : mayv (l.length : Int) = false := by simpa using hm
    have hl0 : loadv l = 1 := by simp [loadv, hm2]
    rw [hm2] at H1
    clear hp
    go_enter Try.func21, Try.ntmps21
    go_wp2_with fail
    refine (unhide H1 _).mono ?_
    rintro e w0 ⟨rfl, rfl⟩
    go_wp2
    go_ret2
    exact .inl ⟨by rw [hl0]; decide, by rw [hl0]; rfl, rfl⟩
end Go.Proofs.Ytpelmacblglhoaa
namespace Go.Proofs.Ytpelmacblglhoaa
open Go.RowKit
set_option maxHeartbeats 4000000
set_option maxRecDepth 8000
def cmpv (a b : Int) : Int := if a < b then -1 else if b < a then 1 else 0
theorem isNaN_any (n : Int) (w : World) : Calls Try.prog 84 #[I n] w fun e w' => e = .returned (.bool false) ∧ w' = w := by
  go_enter Try.func84, Try.ntmps84
  go_wp2
  go_ret
  exact ⟨ret_bool (by simp), rfl⟩
theorem compare_any (a b : Int) (w : World) : Calls Try.prog 79 #[I a, I b] w fun e w' => e = .returned (I (cmpv a b)) ∧ w' = w := by
  have H1 := hide (fun W => isNaN_any a W)
  have H2 := hide (fun W => isNaN_any b W)
  unfold cmpv
  by_cases h1 : a < b
  · rw [if_pos h1]
    go_enter Try.func79, Try.ntmps79
    go_wp2_with fail
    refine (unhide H1 _).mono ?_
    rintro e w0 ⟨rfl, rfl⟩
    go_wp2_with fail
    refine (unhide H2 _).mono ?_
    rintro e w0 ⟨rfl, rfl⟩
    go_wp2
    go_ret
    exact ⟨rfl, rfl⟩
  · rw [if_neg h1]
    by_cases h2 : b < a
    · rw [if_pos h2]
      go_enter Try.func79, Try.ntmps79
      go_wp2_with fail
      refine (unhide H1 _).mono ?_
      rintro e w0 ⟨rfl, rfl⟩
      go_wp2_with fail
      refine (unhide H2 _).mono ?_
      rintro e w0 ⟨rfl, rfl⟩
      go_wp2
      go_ret
      exact ⟨rfl, rfl⟩
    · rw [if_neg h2]
      go_enter Try.func79, Try.ntmps79
      go_wp2_with fail
      refine (unhide H1 _).mono ?_
      rintro e w0 ⟨rfl, rfl⟩
      go_wp2_with fail
      refine (unhide H2 _).mono ?_
      rintro e w0 ⟨rfl, rfl⟩
      go_wp2
      go_ret
      exact ⟨rfl, rfl⟩
theorem cmp_any (x : Wr) (b : Int) (w : World) : Calls Try.prog 78 #[.agg #[I x.1, S x.2], I b] w fun e w' => e = .returned (I (cmpv x.1 b)) ∧ Below w.heap.size w w' := by
  have H1 := hide (fun W => compare_any x.1 b W)
  have hc : (w.alloc (.cells #[I x.1, S x.2] 69)).cell? ⟨w.heap.size, 0, none⟩ = some (I x.1) := by rw [cell_of_row _ _ 0 _ 69 (0, 0) (heap_alloc_new _ _)]; rfl
  generalize cmpv x.1 b = r at *
  obtain ⟨x1, x2⟩ := x
  simp only at H1 hc
  go_enter Try.func78, Try.ntmps78
  go_wp2_with fail
  refine (unhide H1 _).mono ?_
  rintro e w0 ⟨rfl, rfl⟩
  go_wp2
  go_ret
  exact ⟨rfl, (Below.refl _ _).alloc (Nat.le_refl _) _⟩
/-- Writes in memory. -/
def Wls (w : World) (a : Option Addr) (n : Nat) (l : List Wr) : Prop :=
  n = l.length ∧ (0 < n → ∃ p o, a = some ⟨p, o, none⟩ ∧ ∀ j, j < n → w.cell? ⟨p, o + j * 2, none⟩ = some (I (l.getD j (0, [])).1) ∧ w.cell? ⟨p, o + j * 2 + 1, none⟩ = some (S (l.getD j (0, [])).2))
theorem Wls.at {w : World} {a : Option Addr} {n : Nat} {l : List Wr} (h : Wls w a n l) {j : Nat} (hj : j < n) : ∃ p o, a = some ⟨p, o, none⟩ ∧ p < w.heap.size ∧ w.cell? ⟨p, o + j * 2, none⟩ = some (I (l.getD j (0, [])).1) ∧ w.cell? ⟨p, o + j * 2 + 1, none⟩ = some (S (l.getD j (0, [])).2) := by
  obtain ⟨p, o, e, hc⟩ := h.2 (by omega)
  exact ⟨p, o, e, blk_lt (hc j hj).1, (hc j hj).1, (hc j hj).2⟩
theorem Wls.below {w w' : World} {a : Option Addr} {n : Nat} {l : List Wr} (h : Wls w a n l) (hb : Below w.heap.size w w') : Wls w' a n l := by
  refine ⟨h.1, fun hn => ?_⟩
  obtain ⟨p, o, e, hc⟩ := h.2 hn
  exact ⟨p, o, e, fun j hj => ⟨(hb.cell (by exact blk_lt (hc j hj).1)).trans (hc j hj).1, (hb.cell (by exact blk_lt (hc j hj).2)).trans (hc j hj).2⟩⟩
theorem Wls.of {w : World} {v : Value} {l : List Wr} (h : w.ownsRow 0 69 2 v l.length (cellsW l)) : ∃ p cap, v = .slice p l.length cap ∧ Wls w p l.length l := by
  rcases h.2 with ⟨e, q⟩ | ⟨g, cap, cur, e1, e2⟩
  · exact ⟨none, 0, by rw [e, q], ⟨rfl, fun h => by omega⟩⟩
  · refine ⟨_, cap, e1, ⟨rfl, fun _ => ⟨g, 0, rfl, fun j hj => ?_⟩⟩⟩
    subst e1
    rw [Nat.zero_add]
    obtain ⟨h1, h2⟩ := cellsW_at l j hj
    exact ⟨owns_cell h _ _ h1, owns_cell h _ _ h2⟩
/-- They stand by rising blocks. -/
def Srt (l : List Wr) : Prop := ∀ i j, i < j → j < l.length → (l.getD i (0, [])).1 < (l.getD j (0, [])).1
/-- The place of a block: all ahead of it are below, the others are not. -/
def Plc (l : List Wr) (b i : Nat) : Prop := i ≤ l.length ∧ (∀ t, t < i → (l.getD t (0, [])).1 < b) ∧ (∀ t, i ≤ t → t < l.length → b ≤ (l.getD t (0, [])).1)
def hit (l : List Wr) (b i : Nat) : Bool := decide (i < l.length) && decide ((l.getD i (0, [])).1 = b)
theorem cmpv_neg (a b : Nat) : (cmpv a b < 0) ↔ a < b := by
  unfold cmpv
  split
  · omega
  · split <;> omega
theorem cmpv_zero (a b : Nat) : (cmpv a b = 0) ↔ a = b := by
  unfold cmpv
  split
  · omega
  · split <;> omega
theorem search_any (a : Option Addr) (n cap : Nat) (l : List Wr) (b : Nat) (w : World) (hp : Wls w a n l) (hs : Srt l) (hn : n ≤ 1000000000000) :
    Calls Try.prog 77 #[.slice a n cap, I b, .func (.func 78) #[] #[]] w fun e w' => ∃ i, Plc l b i ∧ e = .returned (.tuple #[I i, .bool (hit l b i)]) ∧ Below w.heap.size w w' := by
  have hN := hp.1
  subst hN
  have HP := hide hp
  have HS := hide hs
  clear hp hs
  go_enter Try.func77, Try.ntmps77
  go_wp2
  go_loopw [9, 10] (fun s9 s10 wr => ∃ lo hi : Nat, s9 = .int .i64 lo ∧ s10 = .int .i64 hi ∧ lo ≤ hi ∧ hi ≤ l.length ∧ (∀ t, t < lo → (l.getD t (0, [])).1 < b) ∧ (∀ t, hi ≤ t → t < l.length → b ≤ (l.getD t (0, [])).1) ∧ Below w.heap.size w wr) (fun x y _ => (Go.RowKit.intOf y).toNat - (Go.RowKit.intOf x).toNat)
  case atStart => exact ⟨0, l.length, rfl, rfl, Nat.zero_le _, Nat.le_refl _, fun t h => by omega, fun t h1 h2 => by omega, Below.refl _ _⟩
  case round =>
    obtain ⟨lo, hi, rfl, rfl, h1, h2, ha, hb, hbel⟩ := hrel
    have HA := hide ha
    have HB := hide hb
    have HW := hide hbel
    clear ha hb
    by_cases hlt : lo < hi
    · have hlt' : (lo : Int) < (hi : Int) := by omega
      obtain ⟨p, o, rfl, hpl, hc0, hc1⟩ := ((unhide HP).below hbel).at (j := (lo + hi) / 2) (by omega)
      obtain ⟨x, hx⟩ : ∃ x, x = l.getD ((lo + hi) / 2) (0, []) := ⟨_, rfl⟩
      rw [← hx] at hc0 hc1
      have HX := hide hx
      clear hx hbel
      have H1 := hide (cmp_any x b wr)
      have hcn := cmpv_neg x.1 b
      obtain ⟨x1, x2⟩ := x
      simp only at hc0 hc1 H1 hcn
      generalize hr : cmpv (x1 : Int) (b : Int) = r at *
      clear hr
      go_wp2_with fail
      refine (unhide H1).mono ?_
      rintro e w2 ⟨rfl, b2⟩
      have HW2 := hide ((unhide HW).trans (b2.mono (unhide HW).size))
      clear b2 H1 HW
      by_cases hr0 : r < 0
      · go_wp2
        go_round
        case measure => simp [Go.RowKit.intOf]; omega
        case rel =>
          refine ⟨(lo + hi) / 2 + 1, hi, by rw [show ((lo : Int) + (hi : Int)) / 2 + 1 = (((lo + hi) / 2 + 1 : Nat) : Int) by omega], rfl, by omega, h2, fun t ht => ?_, unhide HB, unhide HW2⟩
          have hx := congrArg Prod.fst (unhide HX)
          have hx1 := hcn.1 hr0
          simp only at hx
          rcases Nat.lt_or_eq_of_le (Nat.lt_succ_iff.1 ht) with q | q
          · have := unhide HS t ((lo + hi) / 2) q (by omega)
            omega
          · rw [q, ← hx]; exact hx1
      · go_wp2
        go_round
        case measure => simp [Go.RowKit.intOf]; omega
        case rel =>
          refine ⟨lo, (lo + hi) / 2, rfl, by rw [show ((lo : Int) + (hi : Int)) / 2 = (((lo + hi) / 2 : Nat) : Int) by omega], by omega, by omega, unhide HA, fun t ht htn => ?_, unhide HW2⟩
          have hx := congrArg Prod.fst (unhide HX)
          have hx1 : ¬ x1 < b := fun q => by have := hcn.2 q; omega
          simp only at hx
          rcases Nat.lt_or_eq_of_le ht with q | q
          · have := unhide HS ((lo + hi) / 2) t q htn
            omega
          · rw [← q, ← hx]; omega
    · obtain rfl : lo = hi := by omega
      have hlt' : ¬ (lo : Int) < (lo : Int) := by omega
      have HPl := hide (show Plc l b lo from ⟨h2, unhide HA, unhide HB⟩)
      clear HA HB
      by_cases hn2 : lo < l.length
      · have hn' : (lo : Int) < (l.length : Int) := by omega
        obtain ⟨p, o, rfl, hpl, hc0, hc1⟩ := ((unhide HP).below hbel).at (j := lo) hn2
        have HH := hide (show hit l b lo = decide ((l.getD lo (0, [])).1 = b) by simp [hit, hn2])
        generalize l.getD lo (0, []) = x at *
        clear hbel
        have H1 := hide (cmp_any x b wr)
        have hcn := cmpv_zero x.1 b
        obtain ⟨x1, x2⟩ := x
        simp only at hc0 hc1 H1 hcn HH
        generalize hr : cmpv (x1 : Int) (b : Int) = r at *
        clear hr
        by_cases hr0 : r = 0
        · go_wp2_with fail
          refine (unhide H1).mono ?_
          rintro e w2 ⟨rfl, b2⟩
          have HW2 := hide ((unhide HW).trans (b2.mono (unhide HW).size))
          clear b2 H1 HW
          go_wp2
          go_ret2
          refine ⟨lo, unhide HPl, ?_, unhide HW2⟩
          rw [unhide HH]
          simp [hcn.1 hr0]
        · go_wp2_with fail
          refine (unhide H1).mono ?_
          rintro e w2 ⟨rfl, b2⟩
          have HW2 := hide ((unhide HW).trans (b2.mono (unhide HW).size))
          clear b2 H1 HW
          go_wp2
          go_ret2
          refine ⟨lo, unhide HPl, ?_, unhide HW2⟩
          have : ¬ x1 = b := fun q => hr0 (hcn.2 q)
          rw [unhide HH]
          simp [this, hr0]
      · have hn' : ¬ (lo : Int) < (l.length : Int) := by omega
        have HH := hide (show hit l b lo = false by simp [hit, hn2])
        clear hbel
        go_wp2
        go_ret2
        refine ⟨lo, unhide HPl, ?_, unhide HW⟩
        rw [unhide HH]
        simp
theorem place_any {D : Nat} {d : Ds} {vw vl : Value} {w : World} (h : DAt D d vw vl w) (hs : Srt d.ws) (hn : d.ws.length ≤ 1000000000000) (b : Nat) :
    Calls Try.prog 67 #[ptr D, I b] w fun e w' => ∃ i, Plc d.ws b i ∧ e = .returned (.tuple #[I i, .bool (hit d.ws b i)]) ∧ Below w.heap.size w w' := by
  obtain ⟨c0, c1, c2, c3, c4⟩ := h.c
  have hl := h.lt
  obtain ⟨p, cap, rfl, hp⟩ := Wls.of h.ws
  have H1 := hide (search_any p _ cap d.ws b w hp hs hn)
  clear h hp hs
  generalize hm : d.ws.length = n at *
  go_enter Try.func67, Try.ntmps67
  go_wp2_with fail
  refine (unhide H1).mono ?_
  rintro e w1 ⟨i, hi, rfl, b1⟩
  have HI := hide hi
  have HB := hide b1
  clear hi b1
  go_wp2
  go_ret2
  exact ⟨i, unhide HI, rfl, unhide HB⟩
/-- What is pending of a block. -/
def fnd (l : List Wr) (b : Nat) : Option Bs := (l.find? (fun x => x.1 == b)).map (·.2)
theorem fnd_hit {l : List Wr} {b i : Nat} (hp : Plc l b i) (h : hit l b i = true) : fnd l b = some (l.getD i (0, [])).2 := by
  obtain ⟨h1, h2⟩ : i < l.length ∧ (l.getD i (0, [])).1 = b := by simpa [hit] using h
  have : l.find? (fun x => x.1 == b) = some (l.getD i (0, [])) := by
    rw [List.find?_eq_some_iff_getElem]
    refine ⟨by simpa using h2, i, h1, by simp [h1], fun j hj => ?_⟩
    have := hp.2.1 j hj
    have e : l.getD j (0, []) = l[j] := by simp [show j < l.length by omega]
    rw [e] at this
    simp
    omega
  unfold fnd
  rw [this]
  rfl
theorem fnd_miss {l : List Wr} {b i : Nat} (hs : Srt l) (hp : Plc l b i) (h : hit l b i = false) : fnd l b = none := by
  have : l.find? (fun x => x.1 == b) = none := by
    rw [List.find?_eq_none]
    intro x hx
    obtain ⟨j, hj, rfl⟩ := List.getElem_of_mem hx
    have e : l.getD j (0, []) = l[j] := by simp [hj]
    rcases Nat.lt_or_ge j i with q | q
    · have := hp.2.1 j q
      rw [e] at this
      simp
      omega
    · have := hp.2.2 j q hj
      rw [e] at this
      simp
      rcases Nat.lt_or_eq_of_le q with q2 | q2
      · have h3 := hs i j q2 hj
        have h4 := hp.2.2 i (Nat.le_refl _) (by omega)
        rw [e] at h3
        omega
      · subst q2
        intro h5
        have : hit l b i = true := by simp [hit, hj, h5]
        rw [this] at h
        cases h
  unfold fnd
  rw [this]
  rfl
end Go.Proofs.Ytpelmacblglhoaa
