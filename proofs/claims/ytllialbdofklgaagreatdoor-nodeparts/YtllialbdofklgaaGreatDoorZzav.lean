import Derived.Test.YtllialbdofklgaaGreatDoorZzau
import Derived.Test.YtllialbdofklgaaGreatDoorZzal
import Derived.Test.YtllialbdofklgaaGreatDoorZzad
import Derived.BigQuiet
import Derived.Deep.QuietTactic
namespace Go.Proofs.YtllialbdofklgaaGreatDoor
open Go.RowKit
set_option maxHeartbeats 8000000
set_option maxRecDepth 8000
def add3 (n m : Nat) : Nat := if 2147483647 < n ∨ 2147483647 < m then 2147483648 else n + m
theorem addsUp_any (n m : Nat) (w : World) (hn : n ≤ 9223372036854775807) (hm : m ≤ 9223372036854775807) :
    Calls Tryz.prog 10 #[I n, I m] w fun e w' => e = .returned (I (add3 n m)) ∧ w' = w := by
  unfold add3
  go_enter Tryz.func10, Tryz.ntmps10
  by_cases h1 : 2147483647 < n
  · have h1' : decide ((2147483647 : Int) < (n : Int)) = true := by rw [decide_eq_true_eq]; omega
    go_wp2
    go_ret
    exact ⟨rfl, rfl⟩
  · have h1' : decide ((2147483647 : Int) < (n : Int)) = false := by rw [decide_eq_false_iff_not]; omega
    by_cases h2 : 2147483647 < m
    · have h2' : decide ((2147483647 : Int) < (m : Int)) = true := by rw [decide_eq_true_eq]; omega
      go_wp2
      go_ret
      exact ⟨rfl, rfl⟩
    · have h2' : decide ((2147483647 : Int) < (m : Int)) = false := by rw [decide_eq_false_iff_not]; omega
      go_wp2
      go_ret
      exact ⟨rfl, rfl⟩
theorem nodeBetween_any (a b : Bs) (w : World) (ha : a.length ≤ 9223372036854775807) (hb : b.length ≤ 9223372036854775807) :
    Calls Tryz.prog 9 #[S a, S b] w fun e w' => e = .returned (.bool true) ∧ Below w.heap.size w w' := by
  have H0 := hide (addsUp_any a.length b.length w (by omega) (by omega))
  go_enter Tryz.func9, Tryz.ntmps9
  by_cases hbig : 2147483647 < add3 a.length b.length
  · generalize add3 a.length b.length = t at *
    have hb' : decide ((2147483647 : Int) < (t : Int)) = true := by rw [decide_eq_true_eq]; omega
    go_wp2_with fail
    refine (unhide H0).mono ?_
    rintro e w1 ⟨rfl, rfl⟩
    go_wp2
    go_ret
    exact ⟨rfl, Below.refl _ _⟩
  · have hsm : a.length + b.length ≤ 2147483647 := by
      unfold add3 at hbig
      by_cases q : 2147483647 < a.length ∨ 2147483647 < b.length
      · rw [if_pos q] at hbig; omega
      · rw [if_neg q] at hbig; omega
    generalize add3 a.length b.length = t at *
    have hb' : decide ((2147483647 : Int) < (t : Int)) = false := by rw [decide_eq_false_iff_not]; omega
    have H1 := hide (awake_any w)
    have H2 := hide (fun W => between_any a b W (by omega) (by omega))
    have hq := fun W => run_geq a b W
    by_cases hlt : a < b
    · rw [show decide (¬ a < b) = false by simp [hlt]] at hq
      have hl := alk_lt hlt
      have hk : btw a b = b.take (alk a b + 1) := by unfold btw; rw [if_pos hlt]
      have hkl := btw_len hlt
      have f1 := fun W => run_leq (btw a b) a W
      rw [show decide (¬ a < btw a b) = false by rw [hk]; exact decide_eq_false (fun q => q (btw_gt hlt))] at f1
      have f2 := fun W => run_gtr (btw a b) b W
      rw [show decide (b < btw a b) = false by rw [hk]; exact decide_eq_false (pre_le b _)] at f2
      have f3 : decide ((b.length : Int) < ((btw a b).length : Int)) = false := by rw [decide_eq_false_iff_not]; omega
      have f4 : b.take (btw a b).length = btw a b := by rw [hkl, hk]
      have f5 := fun W => run_leq (b.take ((btw a b).length - 1)) a W
      rw [show decide (¬ a < b.take ((btw a b).length - 1)) = true by rw [hkl, Nat.add_sub_cancel]; exact decide_eq_true (pre_lt a b _ (Nat.le_refl _))] at f5
      have f6 : (btw a b).length ≤ b.length := by omega
      have f7 : 1 ≤ (btw a b).length := by omega
      generalize btw a b = k at *
      have e4 : (⟨b.toArray⟩ : ByteArray).extract 0 k.length = ⟨k.toArray⟩ := by rw [ext0, f4]
      have e5 : ∀ W, (binOp .leq 9 (.string ((⟨b.toArray⟩ : ByteArray).extract 0 (k.length - 1))) (S a)).run Tryz.prog W = .ok (.bool true) W := fun W => by rw [ext0]; exact f5 W
      have e3 : decide (b.length < k.length) = false := by rw [decide_eq_false_iff_not]; omega
      have e6 : ¬ b.length < k.length := by omega
      clear hlt hl hk hkl f4 f5
      go_wp2_with fail
      refine (unhide H0).mono ?_
      rintro e w1 ⟨rfl, rfl⟩
      go_wp2_with fail
      refine (unhide H1).mono ?_
      rintro e w2 ⟨rfl, b2⟩
      have B2 := hide b2
      have h2 := hide (unhide H2 w2)
      clear b2 H2 H1 H0
      go_wp2_with fail
      refine (unhide h2).mono ?_
      rintro e w3 ⟨rfl, b3⟩
      have B3 := hide ((unhide B2).trans (b3.mono (unhide B2).size))
      clear b3 h2
      go_wp2
      go_ret
      exact ⟨by first | rfl | simp, unhide B3⟩
    · rw [show decide (¬ a < b) = true by simp [hlt]] at hq
      have hk : btw a b = b := by unfold btw; rw [if_neg hlt]
      rw [hk] at H2
      clear hlt hk
      go_wp2_with fail
      refine (unhide H0).mono ?_
      rintro e w1 ⟨rfl, rfl⟩
      go_wp2_with fail
      refine (unhide H1).mono ?_
      rintro e w2 ⟨rfl, b2⟩
      have B2 := hide b2
      have h2 := hide (unhide H2 w2)
      clear b2 H2 H1 H0
      go_wp2_with fail
      refine (unhide h2).mono ?_
      rintro e w3 ⟨rfl, b3⟩
      have B3 := hide ((unhide B2).trans (b3.mono (unhide B2).size))
      clear b3 h2
      go_wp2
      go_ret
      exact ⟨by first | rfl | simp, unhide B3⟩
end Go.Proofs.YtllialbdofklgaaGreatDoor
namespace Go.Proofs.YtllialbdofklgaaGreatDoor
open Go.RowKit
set_option maxHeartbeats 8000000
set_option maxRecDepth 8000
/-- A raw cell. -/
structure Ce where
  k : Bs
  v : Bs
  z : Int
def ce0 : Ce := ⟨[], [], 0⟩
/-- Raw cells in memory. -/
structure Ces (w : World) (a : Option Addr) (n : Nat) (l : List Ce) : Prop where
  len : n = l.length
  num : ∀ j, j < n → -9223372036854775808 ≤ (l.getD j ce0).z ∧ (l.getD j ce0).z ≤ 9223372036854775807
  txt : ∀ j, j < n → (l.getD j ce0).k.length ≤ 9223372036854775807 ∧ (l.getD j ce0).v.length ≤ 9223372036854775807
  cel : 0 < n → ∃ p o, a = some ⟨p, o, none⟩ ∧ ∀ j, j < n → w.cell? ⟨p, o + j * 3, none⟩ = some (S (l.getD j ce0).k) ∧ w.cell? ⟨p, o + j * 3 + 1, none⟩ = some (S (l.getD j ce0).v) ∧ w.cell? ⟨p, o + j * 3 + 2, none⟩ = some (I (l.getD j ce0).z)
theorem Ces.below {w w' : World} {a : Option Addr} {n : Nat} {l : List Ce} (h : Ces w a n l) (hb : Below w.heap.size w w') : Ces w' a n l := by
  refine ⟨h.len, h.num, h.txt, fun hn => ?_⟩
  obtain ⟨p, o, e, hc⟩ := h.cel hn
  refine ⟨p, o, e, fun j hj => ?_⟩
  obtain ⟨h1, h2, h3⟩ := hc j hj
  exact ⟨(hb.cell (by exact blk_lt h1)).trans h1, (hb.cell (by exact blk_lt h2)).trans h2, (hb.cell (by exact blk_lt h3)).trans h3⟩
theorem add3_le (n m : Nat) : add3 n m ≤ 4294967294 := by
  unfold add3
  split <;> omega
theorem add3_ok {n m : Nat} (h : add3 n m ≤ 2147483647) : n ≤ 2147483647 ∧ m ≤ 2147483647 := by
  unfold add3 at h
  split at h
  · omega
  · omega
theorem pageWeighs_any (k nu bi : Int) (la : Option Addr) (ln lc : Nat) (x : Bs) (w : World) (h1 : ln ≤ 9223372036854775807) (h2 : x.length ≤ 9223372036854775807) :
    Calls Tryz.prog 12 #[.agg #[I k, I nu, I bi, .slice la ln lc, S x]] w fun e w' => e = .returned (I (add3 ln x.length)) ∧ Below w.heap.size w w' := by
  have hA := (Below.refl w.heap.size w).alloc (Nat.le_refl _) (.cells #[I k, I nu, I bi, .slice la ln lc, S x] 27)
  have HA := hide hA
  have H := hide (addsUp_any ln x.length (w.alloc (.cells #[I k, I nu, I bi, .slice la ln lc, S x] 27)) h1 h2)
  clear hA
  generalize add3 ln x.length = F at *
  go_enter Tryz.func12, Tryz.ntmps12
  go_wp2_with fail
  refine (unhide H).mono ?_
  rintro e w1 ⟨rfl, rfl⟩
  go_wp2
  go_ret
  exact ⟨rfl, unhide HA⟩
theorem pages_same (k nu bi : Int) (la lb : Option Addr) (ln ca cb : Nat) (L : List Int) (x : Bs) (w : World) (ha : Ins w la ln L) (hb : Ins w lb ln L) (hn : ln ≤ 4294967296) :
    Calls Tryz.prog 21 #[.agg #[I k, I nu, I bi, .slice la ln ca, S x], .agg #[I k, I nu, I bi, .slice lb ln cb, S x]] w fun e w' => e = .returned (.bool true) ∧ Below w.heap.size w w' := by
  have hA := (Below.refl w.heap.size w).alloc (Nat.le_refl _) (.cells #[I k, I nu, I bi, .slice la ln ca, S x] 27)
  have g1 := heap_alloc_new w (.cells #[I k, I nu, I bi, .slice la ln ca, S x] 27)
  generalize hW1 : w.alloc (.cells #[I k, I nu, I bi, .slice la ln ca, S x] 27) = W1 at hA g1
  have hA2 := hA.alloc hA.size (.cells #[I k, I nu, I bi, .slice lb ln cb, S x] 27)
  have g12 := ((Below.refl W1.heap.size W1).alloc (Nat.le_refl _) (.cells #[I k, I nu, I bi, .slice lb ln cb, S x] 27)).block _ (lt_of_row g1) |>.trans g1
  have g2 := heap_alloc_new W1 (.cells #[I k, I nu, I bi, .slice lb ln cb, S x] 27)
  generalize hW2 : W1.alloc (.cells #[I k, I nu, I bi, .slice lb ln cb, S x] 27) = W2 at hA2 g12 g2
  have H := hide (ints_any la lb ln ln ca cb L L W2 (ha.below hA2) (hb.below hA2) hn hn)
  have HA := hide hA2
  obtain ⟨c0, c1, c2, c3, c4⟩ := box5 g12 (Below.refl _ _) (lt_of_row g12)
  obtain ⟨d0, d1, d2, d3, d4⟩ := box5 g2 (Below.refl _ _) (lt_of_row g2)
  have G1 := hide g12
  have G2 := hide g2
  have l1 := lt_of_row g12
  have l2 := lt_of_row g2
  clear hA hA2 g1 g12 g2 ha hb
  rw [decide_eq_true rfl] at H
  go_enter Tryz.func21, Tryz.ntmps21
  go_wp2_with fail
  refine (unhide H).mono ?_
  rintro e w1 ⟨rfl, q, rfl⟩
  have HB := hide (bel_q (unhide HA) q)
  clear c0 c1 c2 c3 c4 d0 d1 d2 d3 d4
  obtain ⟨c0, c1, c2, c3, c4⟩ := box5 (unhide G1) (bel_q (Below.refl W2.heap.size W2) q) l1
  obtain ⟨d0, d1, d2, d3, d4⟩ := box5 (unhide G2) (bel_q (Below.refl W2.heap.size W2) q) l2
  have m1 : w.heap.size < (W2.drewN q).heap.size := l1
  have m2 : W1.heap.size < (W2.drewN q).heap.size := l2
  clear hW1 hW2
  generalize W2.drewN q = W3 at *
  go_wp2
  go_ret
  exact ⟨ret_bool (by simp), unhide HB⟩
end Go.Proofs.YtllialbdofklgaaGreatDoor
namespace Go.Proofs.YtllialbdofklgaaGreatDoor
open Go Go.ChangeShapes Go.WideShapes Go.ChangeAt
theorem cells77 : Tryz.prog.cellsOf 77 = 3 := by kernel_rfl
theorem cells27 : Tryz.prog.cellsOf 27 = 5 := by kernel_rfl
/-- What stands in a raw cell's three cells. -/
structure CeAt (W : World) (a : Addr) (i : Nat) (q : Ce) : Prop where
  c0 : W.cell? (a.add (i * 3)) = some (.string ⟨q.k.toArray⟩)
  c1 : W.cell? (a.add (i * 3 + 1)) = some (.string ⟨q.v.toArray⟩)
  c2 : W.cell? (a.add (i * 3 + 2)) = some (.int .i64 q.z)
  b0 : q.k.length ≤ 9223372036854775807 ∧ q.v.length ≤ 9223372036854775807
  b2 : -9223372036854775808 ≤ q.z ∧ q.z ≤ 9223372036854775807
set_option maxRecDepth 20000 in
/-- Raw cells among the arguments. -/
theorem open_cells {H : Type} {enc : TypeId × Value → H} {W : World} {v : Value} {base : Nat} {d : DataW H} {ps : List MemPlace} (hval : Value.okWide Tryz.prog W .any base 51 v)
    (h : DataW.Trod enc Tryz.prog W 0 (fun _ => true) true 51 v d ps) :
    ∃ (a : Option Addr) (l : List Ce) (cap : Nat), v = .slice a l.length cap ∧ Ces W a l.length l ∧ l.length ≤ 9223372036854775807 := by
  obtain ⟨sa, sl, sc, rfl⟩ := okWide_slice Tryz.underlying51 hval
  obtain ⟨fuel, hf⟩ := h
  rcases Go.Deep.open_slice Tryz.underlying51 hf with ⟨hcs, _⟩ | ⟨x, l, c, m, n, D, Pl, hcs, _, hl, hm, hmm, hx, hel⟩
  · simp [Value.cells] at hcs
    obtain ⟨rfl, rfl, rfl⟩ := hcs
    exact ⟨none, [], 0, rfl, ⟨rfl, fun j hj => by simp at hj, fun j hj => by simp at hj, fun hn => by simp at hn⟩, by simp⟩
  · simp [Value.cells] at hcs
    obtain ⟨rfl, rfl, rfl⟩ := hcs
    simp only [if_true] at hmm
    subst hmm
    have each : ∀ i, i < m → ∃ q : Ce, CeAt W x i q := by
      intro i hi
      obtain ⟨cs', h1, h2⟩ := hel i hi
      rw [cells77] at h1
      obtain ⟨_, hlen, hcell⟩ := World.cells?_some h1
      obtain ⟨xs, k, hk, hxy, _, hxl, hf⟩ := DataW.trod_struct Tryz.underlying77 h2
      match xs, hxl, cs', hlen with
      | [y0, y1, y2], _, [v0, v1, v2], _ =>
        have g0 := hf 0 _ rfl
        have g1 := hf 1 _ rfl
        have g2 := hf 2 _ rfl
        simp [cells3, cells9] at g0 g1 g2
        have e0 := hcell 0 (by omega)
        have e1 := hcell 1 (by omega)
        have e2 := hcell 2 (by omega)
        rw [Go.Deep.add_add] at e0 e1 e2
        obtain ⟨z0, ez0, rfl, w0⟩ := DataW.trod_string Tryz.underlying9 g0
        obtain ⟨z1, ez1, rfl, w1⟩ := DataW.trod_string Tryz.underlying9 g1
        obtain ⟨z2, ez2, rfl, w2⟩ := DataW.trod_int Tryz.underlying3 g2
        simp only [List.cons.injEq, and_true] at ez0 ez1 ez2
        subst ez0 ez1 ez2
        unfold maxLen at w0 w1
        refine ⟨⟨z0.data.toList, z1.data.toList, z2⟩, by simpa using e0, by simpa using e1, by simpa using e2, ⟨?_, ?_⟩, bounds_i64 w2⟩
        · show z0.data.toList.length ≤ _
          rw [Array.length_toList]
          exact Nat.le_trans w0 (by omega)
        · show z1.data.toList.length ≤ _
          rw [Array.length_toList]
          exact Nat.le_trans w1 (by omega)
    have : Inhabited Ce := ⟨ce0⟩
    obtain ⟨q, hq⟩ := Go.Deep.choose_lt each
    have hlen : ((List.range sl).map q).length = sl := by simp
    unfold maxLen at hm
    refine ⟨some x, (List.range sl).map q, m, by rw [hlen], ⟨rfl, fun j hj => ?_, fun j hj => ?_, fun h0 => ?_⟩, by omega⟩
    · rw [hlen] at hj
      rw [getD_at q ce0 sl j hj]
      exact (hq j (by omega)).b2
    · rw [hlen] at hj
      rw [getD_at q ce0 sl j hj]
      exact (hq j (by omega)).b0
    · rw [hlen] at h0 ⊢
      obtain ⟨b, off, spot⟩ := x
      have hspot : spot = none := by simpa [Addr.add] using World.cell?_spot (hq 0 (by omega)).c0
      subst hspot
      refine ⟨b, off, rfl, fun k hk => ?_⟩
      rw [getD_at q ce0 sl k hk]
      have h3 := hq k (by omega)
      have e0 := h3.c0
      have e1 := h3.c1
      have e2 := h3.c2
      rw [WideShapes.add_plain] at e0 e1 e2
      exact ⟨e0, by rw [Nat.add_assoc]; exact e1, by rw [Nat.add_assoc]; exact e2⟩
set_option maxRecDepth 20000 in
/-- A page among the arguments. -/
theorem open_page {H : Type} {enc : TypeId × Value → H} {W : World} {v : Value} {base : Nat} {d : DataW H} {ps : List MemPlace} (hval : Value.okWide Tryz.prog W .any base 27 v)
    (h : DataW.Trod enc Tryz.prog W 0 (fun _ => true) true 27 v d ps) :
    ∃ (k nu bi : Int) (la : Option Addr) (L : List Int) (lc : Nat) (x : Bs), v = .agg #[I k, I nu, I bi, .slice la L.length lc, S x] ∧ Ins W la L.length L ∧ L.length ≤ 9223372036854775807 ∧ x.length ≤ 9223372036854775807 := by
  obtain ⟨cs, rfl, hc⟩ := okWide_struct Tryz.underlying27 hval
  rw [cells27] at hc
  obtain ⟨fuel, hf⟩ := h
  obtain ⟨xs, k, hk, hxy, _, hxl, hfs⟩ := DataW.trod_struct Tryz.underlying27 hf
  obtain ⟨l⟩ := cs
  match xs, hxl, l, hc with
  | [y0, y1, y2, y3, y4], _, [v0, v1, v2, v3, v4], _ =>
    have g0 := hfs 0 _ rfl
    have g1 := hfs 1 _ rfl
    have g2 := hfs 2 _ rfl
    have g3 := hfs 3 _ rfl
    have g4 := hfs 4 _ rfl
    simp [cells3, cells23, cells9, Value.cells] at g0 g1 g2 g3 g4
    obtain ⟨z0, ez0, _⟩ := DataW.trod_int Tryz.underlying3 g0
    obtain ⟨z1, ez1, _⟩ := DataW.trod_int Tryz.underlying3 g1
    obtain ⟨z2, ez2, _⟩ := DataW.trod_int Tryz.underlying3 g2
    obtain ⟨ia, is, ic, rfl, i1, i2, i3⟩ := open_ints g3
    obtain ⟨z4, ez4, _, w4⟩ := DataW.trod_string Tryz.underlying9 g4
    simp only [List.cons.injEq, and_true] at ez0 ez1 ez2 ez4
    subst ez0 ez1 ez2 ez4
    unfold maxLen at w4
    refine ⟨z0, z1, z2, ia, is, ic, z4.data.toList, by simp, i1, i3, ?_⟩
    rw [Array.length_toList]
    exact Nat.le_trans w4 (by omega)
end Go.Proofs.YtllialbdofklgaaGreatDoor
namespace Go.Proofs.YtllialbdofklgaaGreatDoor
open Go.RowKit
set_option maxHeartbeats 4000000
set_option maxRecDepth 8000
theorem ext_take (s : Bs) (n : Nat) : (Value.string (ByteArray.extract ⟨s.toArray⟩ 0 n)) = S (s.take n) := by
  congr 1
  ext1
  simp [ByteArray.data_extract]
theorem short_any (s : Bs) (n : Nat) (w : World) :
    Calls Tryz.prog 85 #[S s, I n] w fun e w' => e = .returned (S (s.take n)) ∧ w' = w := by
  by_cases h : n < s.length
  · have h' : (n : Int) < (s.length : Int) := by omega
    go_enter Tryz.func85, Tryz.ntmps85
    go_wp2
    go_ret
    exact ⟨by rw [ext_take]; rfl, rfl⟩
  · have h' : ¬ (n : Int) < (s.length : Int) := by omega
    go_enter Tryz.func85, Tryz.ntmps85
    go_wp2
    go_ret
    exact ⟨by rw [List.take_of_length_le (by omega)]; rfl, rfl⟩
theorem pick_any (c : Int) (n : Nat) (w : World) (hc : -9223372036854775808 ≤ c ∧ c ≤ 9223372036854775807) (hn : 0 < n ∧ n ≤ 4294967296) :
    Calls Tryz.prog 36 #[I c, I n] w fun e w' => ∃ r : Nat, r < n ∧ e = .returned (I r) ∧ w' = w := by
  have hn0 : ((n : Int) == 0) = false := by simp; omega
  have hn1 : ¬ (n : Int) = 0 := by omega
  have hm1 : ¬ (n : Int) = -1 := by omega
  by_cases h : c < 0
  · have h' : decide (c < 0) = true := by simpa using h
    go_enter Tryz.func36, Tryz.ntmps36
    go_wp2
    go_ret
    refine ⟨((-(c + 1)) % (n : Int)).toNat, ?_, ?_, rfl⟩
    · have h1 := Int.emod_nonneg (-(c + 1)) hn1
      have h2 := Int.emod_lt_of_pos (-(c + 1)) (show (0 : Int) < n by omega)
      omega
    · have h1 := Int.emod_nonneg (-(c + 1)) hn1
      refine ret_int ?_
      rw [Int.toNat_of_nonneg h1]
      rw [← Int.neg_tmod, Int.tmod_eq_emod_of_nonneg (by omega)]
  · have h' : decide (c < 0) = false := by simpa using h
    go_enter Tryz.func36, Tryz.ntmps36
    go_wp2
    go_ret
    refine ⟨(c % (n : Int)).toNat, ?_, ?_, rfl⟩
    · have h1 := Int.emod_nonneg c hn1
      have h2 := Int.emod_lt_of_pos c (show (0 : Int) < n by omega)
      omega
    · have h1 := Int.emod_nonneg c hn1
      refine ret_int ?_
      rw [Int.toNat_of_nonneg h1]
      try rw [Int.tmod_eq_emod_of_nonneg (by omega)]
/-- Is the key there? -/
def isat (l : List Bs) (key : Bs) : Bool := decide (blw l key < l.length ∧ l.getD (blw l key) [] = key)
theorem place_any (a : Option Addr) (n cap : Nat) (l : List Bs) (key : Bs) (w : World) (hp : Sts w a n l) (hn : n ≤ 4294967296) :
    Calls Tryz.prog 86 #[.slice a n cap, S key] w fun e w' => e = .returned (.tuple #[I (blw l key), .bool (isat l key)]) ∧ ∃ q, w' = w.drewN q := by
  have hN := hp.1
  subst hN
  have HP := hide hp
  clear hp
  have HF := hide (show isat l key = decide (blw l key < l.length ∧ l.getD (blw l key) [] = key) from rfl)
  generalize isat l key = F at *
  have HL := hide (blw_le l key)
  have HLT := hide (blw_lt l key)
  have HEN := hide (blw_end l key)
  generalize blw l key = K at *
  go_enter Tryz.func86, Tryz.ntmps86
  go_wp2
  go_loopw [6] (fun i wr => ∃ k : Nat, k ≤ K ∧ i = .int .i64 k ∧ wr = w) (fun i _ => l.length - (Go.RowKit.intOf i).toNat)
  case atStart => exact ⟨0, by omega, rfl, rfl⟩
  case round =>
    obtain ⟨k, hk, rfl, rfl⟩ := hrel
    have hl := unhide HL
    by_cases h1 : k < l.length
    · have h1' : decide ((k : Int) < (l.length : Int)) = true := by rw [decide_eq_true_eq]; omega
      obtain ⟨p, o, rfl, hpl, hc0⟩ := (unhide HP).at h1
      have HX : Hid (l.getD k [] < key → k < K) := by
        intro h
        rcases Nat.lt_or_ge k K with q | q
        · exact q
        · obtain rfl : k = K := by omega
          exact absurd h (unhide HEN h1)
      have HY : Hid (¬ l.getD k [] < key → K = k) := by
        intro h
        rcases Nat.lt_or_ge k K with q | q
        · exact absurd (unhide HLT k q) h
        · omega
      generalize hx : l.getD k [] = x at *
      by_cases h2 : x < key
      · have hs : Op.bytesLess x key = true := by rw [less_eq]; simp [h2]
        have h3 := unhide HX h2
        clear HX HY h2
        go_wp2
        go_round
        case measure => simp [Go.RowKit.intOf]; omega
        case rel => exact ⟨k + 1, by omega, by simp, by first | trivial | rfl⟩
      · have hs : Op.bytesLess x key = false := by rw [less_eq]; simp [h2]
        have h3 := unhide HY h2
        clear HX HY h2 hk hl
        subst h3
        have HFF := hide (show F = (x == key) by rw [unhide HF, hx, Bool.eq_iff_iff]; simp [h1])
        clear HL HLT HEN HF hx
        generalize hv : (x == key) = v at *
        go_wp2
        go_quiet (fail)
        go_wp2
        go_ret2
        exact ⟨by rw [unhide HFF]; rfl, _, rfl⟩
    · have h1' : decide ((k : Int) < (l.length : Int)) = false := by rw [decide_eq_false_iff_not]; omega
      have h3 : K = k := by omega
      subst h3
      have HFF := hide (show F = false by rw [unhide HF]; simp [h1])
      clear HL HLT HEN hl HF
      go_wp2
      go_quiet (fail)
      go_wp2
      go_ret2
      exact ⟨by rw [unhide HFF]; rfl, _, rfl⟩
/-- The law's own size. -/
def lsz (n : Nd) : Nat := 4 * n.kids.length + (n.keys.length + tot n.keys) + (n.vals.length + tot n.vals)
theorem lsize_any (n : Nd) (ka va ia : Option Addr) (kc vc ic : Nat) (w : World) (h : NA n ka va ia w) (hb : NB n) :
    Calls Tryz.prog 40 #[nda n ka va ia kc vc ic] w fun e w' => e = .returned (I (lsz n)) ∧ Below w.heap.size w w' := by
  obtain ⟨lf, ks, vs, is⟩ := n
  have hA := (Below.refl w.heap.size w).alloc (Nat.le_refl _) (.cells #[.bool lf, .slice ka ks.length kc, .slice va vs.length vc, .slice ia is.length ic] 25)
  have hg := heap_alloc_new w (.cells #[.bool lf, .slice ka ks.length kc, .slice va vs.length vc, .slice ia is.length ic] 25)
  have hz := lt_of_row hg
  have hn := h.below hA
  obtain ⟨b1, b2, b3, b4, b5⟩ := hb
  have HK := hide hn.ks
  have HV := hide hn.vs
  simp only at b1 b2 b3 b4 b5 HK HV
  have HA := hide hA
  obtain ⟨d0, d1, d2, d3⟩ := box4 hg (Below.refl _ _) hz
  have HTK := hide (fun k => tot_take ks k)
  have HTV := hide (fun k => tot_take vs k)
  have HF := hide (show lsz ⟨lf, ks, vs, is⟩ = 4 * is.length + (ks.length + tot ks) + (vs.length + tot vs) from rfl)
  generalize lsz ⟨lf, ks, vs, is⟩ = F at *
  clear h hA hn hg
  unfold nda
  simp only
  generalize hil : is.length = il at *
  clear hil is
  generalize hWW : w.alloc (.cells #[.bool lf, .slice ka ks.length kc, .slice va vs.length vc, .slice ia il ic] 25) = W at *
  have HWW := hide hWW
  clear hWW
  go_enter Tryz.func40, Tryz.ntmps40
  go_wp2
  go_loopw [3, 4] (fun s i wr => ∃ k : Nat, k ≤ ks.length ∧ i = .int .i64 k ∧ s = .int .i64 (4 * il + (k + tot (ks.take k)) : Nat) ∧ wr = W) (fun _ i _ => ks.length - (Go.RowKit.intOf i).toNat)
  case atStart => exact ⟨0, by omega, rfl, by simp [tot], unhide HWW⟩
  case round =>
    obtain ⟨k, hk, rfl, rfl, rfl⟩ := hrel
    by_cases hlt : k < ks.length
    · obtain ⟨p, o, rfl, hpl, hc0⟩ := (unhide HK).at hlt
      have hlt' : (k : Int) < (ks.length : Int) := by omega
      have h1 := tot_next ks k hlt
      have h2 := unhide HTK (k + 1)
      have HN := hide h1
      generalize ks.getD k [] = x at *
      generalize tot (ks.take k) = T at *
      rw [h1] at h2
      clear h1
      go_wp2
      go_round
      case measure => simp [Go.RowKit.intOf]; omega
      case rel => exact ⟨k + 1, by omega, by simp, by rw [unhide HN]; simp; omega, by first | trivial | rfl⟩
    · have hlt' : ¬ (k : Int) < (ks.length : Int) := by omega
      obtain rfl : k = ks.length := by omega
      rw [List.take_length]
      generalize hA1 : 4 * il + (ks.length + tot ks) = A1 at *
      have HA1 := hide hA1
      have hA1b : A1 ≤ 100000000000 := by omega
      clear hA1
      go_wp2
      go_loopw [3, 5] (fun s i wx => ∃ k : Nat, k ≤ vs.length ∧ i = .int .i64 k ∧ s = .int .i64 (A1 + (k + tot (vs.take k)) : Nat) ∧ wx = wr) (fun _ i _ => vs.length - (Go.RowKit.intOf i).toNat)
      case atStart => exact ⟨0, by omega, rfl, by simp [tot], rfl⟩
      case round =>
        obtain ⟨k, hk, rfl, rfl, rfl⟩ := hrel
        by_cases hlt : k < vs.length
        · obtain ⟨p, o, rfl, hpl, hc0⟩ := (unhide HV).at hlt
          have hlt' : (k : Int) < (vs.length : Int) := by omega
          have h1 := tot_next vs k hlt
          have h2 := unhide HTV (k + 1)
          have HN := hide h1
          generalize vs.getD k [] = x at *
          generalize tot (vs.take k) = T at *
          rw [h1] at h2
          clear h1
          go_wp2
          go_round
          case measure => simp [Go.RowKit.intOf]; omega
          case rel => exact ⟨k + 1, by omega, by simp, by rw [unhide HN]; simp; omega, by first | trivial | rfl⟩
        · have hlt' : ¬ (k : Int) < (vs.length : Int) := by omega
          go_wp2
          go_ret
          exact ⟨ret_int (by rw [List.take_of_length_le (by omega), unhide HF]; have := unhide HA1; omega), unhide HA⟩
end Go.Proofs.YtllialbdofklgaaGreatDoor
