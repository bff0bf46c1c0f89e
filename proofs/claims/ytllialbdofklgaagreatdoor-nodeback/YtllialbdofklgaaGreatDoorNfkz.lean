import Derived.Test.YtllialbdofklgaaGreatDoorNdt
import Derived.Test.YtllialbdofklgaaGreatDoorNdh
import Derived.Test.YtllialbdofklgaaGreatDoorNfi
namespace Go.Proofs.YtllialbdofklgaaGreatDoor
open Go.RowKit
set_option maxHeartbeats 8000000
set_option maxRecDepth 8000
/-- A raw cell. -/
structure Ce where
  k : Bs
  v : Bs
  z : Int
def ce0 : Ce := ⟨[], [], 0⟩
/-- Raw cells in memory. -/
structure Ces (w : World) (a : Option Addr) (n : Nat) (l : List Ce) : Prop where
  len : n = l.length
  num : ∀ j, j < n → -9223372036854775808 ≤ (l.getD j ce0).z ∧ (l.getD j ce0).z ≤ 9223372036854775807
  txt : ∀ j, j < n → (l.getD j ce0).k.length ≤ 9223372036854775807 ∧ (l.getD j ce0).v.length ≤ 9223372036854775807
  cel : 0 < n → ∃ p o, a = some ⟨p, o, none⟩ ∧ ∀ j, j < n → w.cell? ⟨p, o + j * 3, none⟩ = some (S (l.getD j ce0).k) ∧ w.cell? ⟨p, o + j * 3 + 1, none⟩ = some (S (l.getD j ce0).v) ∧ w.cell? ⟨p, o + j * 3 + 2, none⟩ = some (I (l.getD j ce0).z)
theorem Ces.below {w w' : World} {a : Option Addr} {n : Nat} {l : List Ce} (h : Ces w a n l) (hb : Below w.heap.size w w') : Ces w' a n l := by
  refine ⟨h.len, h.num, h.txt, fun hn => ?_⟩
  obtain ⟨p, o, e, hc⟩ := h.cel hn
  refine ⟨p, o, e, fun j hj => ?_⟩
  obtain ⟨h1, h2, h3⟩ := hc j hj
  exact ⟨(hb.cell (by exact blk_lt h1)).trans h1, (hb.cell (by exact blk_lt h2)).trans h2, (hb.cell (by exact blk_lt h3)).trans h3⟩
theorem add3_le (n m : Nat) : add3 n m ≤ 4294967294 := by
  unfold add3
  split <;> omega
theorem add3_ok {n m : Nat} (h : add3 n m ≤ 2147483647) : n ≤ 2147483647 ∧ m ≤ 2147483647 := by
  unfold add3 at h
  split at h
  · omega
  · omega
theorem pageWeighs_any (k nu bi : Int) (la : Option Addr) (ln lc : Nat) (x : Bs) (w : World) (h1 : ln ≤ 9223372036854775807) (h2 : x.length ≤ 9223372036854775807) :
    Calls Tryz.prog 12 #[.agg #[I k, I nu, I bi, .slice la ln lc, S x]] w fun e w' => e = .returned (I (add3 ln x.length)) ∧ Below w.heap.size w w' := by
  have hA := (Below.refl w.heap.size w).alloc (Nat.le_refl _) (.cells #[I k, I nu, I bi, .slice la ln lc, S x] 27)
  have HA := hide hA
  have H := hide (addsUp_any ln x.length (w.alloc (.cells #[I k, I nu, I bi, .slice la ln lc, S x] 27)) h1 h2)
  clear hA
  generalize add3 ln x.length = F at *
  go_enter Tryz.func12, Tryz.ntmps12
  go_wp2_with fail
  refine (unhide H).mono ?_
  rintro e w1 ⟨rfl, rfl⟩
  go_wp2
  go_ret
  exact ⟨rfl, unhide HA⟩
theorem pages_same (k nu bi : Int) (la lb : Option Addr) (ln ca cb : Nat) (L : List Int) (x : Bs) (w : World) (ha : Ins w la ln L) (hb : Ins w lb ln L) (hn : ln ≤ 4294967296) :
    Calls Tryz.prog 21 #[.agg #[I k, I nu, I bi, .slice la ln ca, S x], .agg #[I k, I nu, I bi, .slice lb ln cb, S x]] w fun e w' => e = .returned (.bool true) ∧ Below w.heap.size w w' := by
  have hA := (Below.refl w.heap.size w).alloc (Nat.le_refl _) (.cells #[I k, I nu, I bi, .slice la ln ca, S x] 27)
  have g1 := heap_alloc_new w (.cells #[I k, I nu, I bi, .slice la ln ca, S x] 27)
  generalize hW1 : w.alloc (.cells #[I k, I nu, I bi, .slice la ln ca, S x] 27) = W1 at hA g1
  have hA2 := hA.alloc hA.size (.cells #[I k, I nu, I bi, .slice lb ln cb, S x] 27)
  have g12 := ((Below.refl W1.heap.size W1).alloc (Nat.le_refl _) (.cells #[I k, I nu, I bi, .slice lb ln cb, S x] 27)).block _ (lt_of_row g1) |>.trans g1
  have g2 := heap_alloc_new W1 (.cells #[I k, I nu, I bi, .slice lb ln cb, S x] 27)
  generalize hW2 : W1.alloc (.cells #[I k, I nu, I bi, .slice lb ln cb, S x] 27) = W2 at hA2 g12 g2
  have H := hide (ints_any la lb ln ln ca cb L L W2 (ha.below hA2) (hb.below hA2) hn hn)
  have HA := hide hA2
  obtain ⟨c0, c1, c2, c3, c4⟩ := box5 g12 (Below.refl _ _) (lt_of_row g12)
  obtain ⟨d0, d1, d2, d3, d4⟩ := box5 g2 (Below.refl _ _) (lt_of_row g2)
  have G1 := hide g12
  have G2 := hide g2
  have l1 := lt_of_row g12
  have l2 := lt_of_row g2
  clear hA hA2 g1 g12 g2 ha hb
  rw [decide_eq_true rfl] at H
  go_enter Tryz.func21, Tryz.ntmps21
  go_wp2_with fail
  refine (unhide H).mono ?_
  rintro e w1 ⟨rfl, q, rfl⟩
  have HB := hide (bel_q (unhide HA) q)
  clear c0 c1 c2 c3 c4 d0 d1 d2 d3 d4
  obtain ⟨c0, c1, c2, c3, c4⟩ := box5 (unhide G1) (bel_q (Below.refl W2.heap.size W2) q) l1
  obtain ⟨d0, d1, d2, d3, d4⟩ := box5 (unhide G2) (bel_q (Below.refl W2.heap.size W2) q) l2
  have m1 : w.heap.size < (W2.drewN q).heap.size := l1
  have m2 : W1.heap.size < (W2.drewN q).heap.size := l2
  clear hW1 hW2
  generalize W2.drewN q = W3 at *
  go_wp2
  go_ret
  exact ⟨ret_bool (by simp), unhide HB⟩
end Go.Proofs.YtllialbdofklgaaGreatDoor
namespace Go.Proofs.YtllialbdofklgaaGreatDoor
open Go.RowKit
/-! ### A node of raw cells -/
structure Mk (lf : Bool) (most : Nat) (n : Nd) : Prop where
  leaf : n.leaf = lf
  vl : lf = true → n.vals.length = n.keys.length ∧ n.kids = [] ∧ ∀ x ∈ n.vals, x.length ≤ 200
  il : lf = false → n.vals = [] ∧ n.kids.length = n.keys.length + 1 ∧ ∀ j, j < n.kids.length → (2 + 1000 * j : Int) ≤ n.kids.getD j 0 ∧ n.kids.getD j 0 < 2 + 1000 * (j + 1)
  ks : Rs n.keys
  kl : ∀ x ∈ n.keys, 1 ≤ x.length ∧ x.length ≤ 36
  sz : lsz n ≤ most
theorem ky_pos (k : Bs) : 1 ≤ (ky k).length ∧ (ky k).length ≤ 36 := by
  unfold ky
  split
  · simp
  · rename_i h
    refine ⟨List.length_pos_iff.2 h, by rw [List.length_take]; omega⟩
theorem blw_split : ∀ (l : List Bs) (key : Bs), Rs l → isat l key = false → (∀ x ∈ l.take (blw l key), x < key) ∧ ∀ x ∈ l.drop (blw l key), key < x
  | [], _, _, _ => by simp
  | a :: r, key, hs, ha => by
    by_cases h : a < key
    · have hb : blw (a :: r) key = blw r key + 1 := by rw [blw, if_pos h]
      have hr := (List.pairwise_cons.1 hs).2
      have ha' : isat r key = false := by
        unfold isat at ha ⊢
        rw [hb] at ha
        simpa using ha
      obtain ⟨h1, h2⟩ := blw_split r key hr ha'
      rw [hb]
      refine ⟨fun x hx => ?_, by simpa using h2⟩
      rw [List.take_succ_cons] at hx
      rcases List.mem_cons.1 hx with rfl | hx
      · exact h
      · exact h1 x hx
    · have hb : blw (a :: r) key = 0 := by rw [blw, if_neg h]
      rw [hb]
      refine ⟨by simp, fun x hx => ?_⟩
      have hne : a ≠ key := by
        intro e
        unfold isat at ha
        rw [hb] at ha
        simp [e] at ha
      have hlt : key < a := lt_total' h hne
      rw [List.drop_zero] at hx
      rcases List.mem_cons.1 hx with rfl | hx
      · exact hlt
      · exact lt_trans' hlt ((List.pairwise_cons.1 hs).1 x hx)
theorem ins_rs {l : List Bs} {key : Bs} (hs : Rs l) (ha : isat l key = false) : Rs (l.take (blw l key) ++ [key] ++ l.drop (blw l key)) := by
  obtain ⟨h1, h2⟩ := blw_split l key hs ha
  have h3 : Rs (l.take (blw l key)) := hs.sublist (List.take_sublist _ _)
  have h4 : Rs (l.drop (blw l key)) := hs.sublist (List.drop_sublist _ _)
  refine List.pairwise_append.2 ⟨List.pairwise_append.2 ⟨h3, List.pairwise_singleton _ _, fun a ha b hb => ?_⟩, h4, fun a ha b hb => ?_⟩
  · rw [List.mem_singleton.1 hb]; exact h1 a ha
  · rcases List.mem_append.1 ha with ha | ha
    · exact lt_trans' (h1 a ha) (h2 b hb)
    · rw [List.mem_singleton.1 ha]; exact h2 b hb
theorem ins_tot (l : List Bs) (i : Nat) (x : Bs) : tot (l.take i ++ [x] ++ l.drop i) = tot l + x.length := by
  have := tot_app (l.take i) (l.drop i)
  rw [List.take_append_drop] at this
  rw [tot_app, tot_app]
  simp only [tot, List.map_cons, List.map_nil, List.sum_cons, List.sum_nil] at *
  omega
theorem ins_len (l : List Bs) (i : Nat) (x : Bs) : (l.take i ++ [x] ++ l.drop i).length = l.length + 1 := by
  have : (l.take i ++ l.drop i).length = l.length := by rw [List.take_append_drop]
  simp only [List.length_append, List.length_cons, List.length_nil] at *
  omega
theorem ins_mem {l : List Bs} {i : Nat} {x y : Bs} (h : y ∈ l.take i ++ [x] ++ l.drop i) : y ∈ l ∨ y = x := by
  rcases List.mem_append.1 h with h | h
  · rcases List.mem_append.1 h with h | h
    · exact .inl (List.mem_of_mem_take h)
    · exact .inr (List.mem_singleton.1 h)
  · exact .inl (List.mem_of_mem_drop h)
theorem Mk.with {lf : Bool} {most : Nat} {n : Nd} (h : Mk lf most n) (k v : Bs) (r : Nat) (hr : r < 1000) : Mk lf most (wth n k v ((2 + 1000 * n.kids.length + r : Nat) : Int) most) := by
  unfold wth
  split
  · exact h
  · rename_i hq
    rw [not_or] at hq
    have ha : isat n.keys (ky k) = false := by simpa using hq.1
    have hz := hq.2
    have hky := ky_pos k
    have hv200 : (v.take 200).length ≤ 200 := by rw [List.length_take]; omega
    rw [h.leaf] at hz ⊢
    unfold mor at hz
    have hs := h.sz
    cases lf
    · obtain ⟨h1, h2, h3⟩ := h.il rfl
      rw [if_neg (by simp)] at hz ⊢
      refine ⟨rfl, fun q => (by cases q), fun _ => ⟨rfl, ?_, ?_⟩, ins_rs h.ks ha, ?_, ?_⟩
      · have hl := ins_len n.keys (blw n.keys (ky k)) (ky k)
        simp only [List.length_append, List.length_cons, List.length_nil] at hl ⊢
        omega
      · intro j hj
        simp only [List.length_append, List.length_cons, List.length_nil] at hj
        by_cases e : j < n.kids.length
        · have := h3 j e
          simp only [List.getD_eq_getElem?_getD, List.getElem?_append_left e] at this ⊢
          exact this
        · obtain rfl : j = n.kids.length := by omega
          simp only [List.getD_eq_getElem?_getD, List.getElem?_append_right (Nat.le_refl _), Nat.sub_self, List.getElem?_cons_zero, Option.getD_some]
          omega
      · intro x hx
        rcases ins_mem hx with hx | rfl
        · exact h.kl x hx
        · exact hky
      · have hl := ins_len n.keys (blw n.keys (ky k)) (ky k)
        have ht := ins_tot n.keys (blw n.keys (ky k)) (ky k)
        have hk1 : (n.kids ++ [((2 + 1000 * n.kids.length + r : Nat) : Int)]).length = n.kids.length + 1 := by simp
        have t0 : tot [] = 0 := rfl
        unfold lsz at hs hz ⊢
        rw [h1] at hz
        dsimp only
        rw [hl, ht, hk1]
        simp only [List.length_nil, t0] at hz ⊢
        omega
    · obtain ⟨h1, h2, h3⟩ := h.vl rfl
      rw [if_pos rfl] at hz ⊢
      refine ⟨rfl, fun _ => ⟨?_, rfl, ?_⟩, fun q => (by cases q), ins_rs h.ks ha, ?_, ?_⟩
      · rw [ins_len, ins_len]; omega
      · intro x hx
        rcases ins_mem hx with hx | rfl
        · exact h3 x hx
        · exact hv200
      · intro x hx
        rcases ins_mem hx with hx | rfl
        · exact h.kl x hx
        · exact hky
      · have hl := ins_len n.keys (blw n.keys (ky k)) (ky k)
        have ht := ins_tot n.keys (blw n.keys (ky k)) (ky k)
        have hl2 := ins_len n.vals (blw n.keys (ky k)) (v.take 200)
        have ht2 := ins_tot n.vals (blw n.keys (ky k)) (v.take 200)
        unfold lsz at hs hz ⊢
        dsimp only
        rw [hl, ht, hl2, ht2, List.length_nil]
        omega
theorem kids_nodup {l : List Int} (h : ∀ j, j < l.length → (2 + 1000 * j : Int) ≤ l.getD j 0 ∧ l.getD j 0 < 2 + 1000 * (j + 1)) : l.Nodup := by
  refine List.pairwise_iff_getElem.2 fun i j hi hj hij => ?_
  have h1 := (h i hi).2
  have h2 := (h j hj).1
  rw [List.getD_eq_getElem?_getD, List.getElem?_eq_getElem hi] at h1
  rw [List.getD_eq_getElem?_getD, List.getElem?_eq_getElem hj] at h2
  simp only [Option.getD_some] at h1 h2
  omega
/-- Such a node is right, if it has a key and no more than 480 bytes. -/
theorem Mk.right {lf : Bool} {most : Nat} {n : Nd} (h : Mk lf most n) (hm : most ≤ 480) (hk : n.keys ≠ []) : wrv n = 0 := by
  have hp : 0 < n.keys.length := List.length_pos_iff.2 hk
  have hs := h.sz
  have hkok : kok n.keys = true := by
    unfold kok
    rw [Bool.and_eq_true, (up_iff _).2 h.ks]
    refine ⟨List.all_eq_true.2 fun x hx => ?_, rfl⟩
    have := h.kl x hx
    unfold noKey
    simp only [Bool.not_eq_true', Bool.or_eq_false_iff, decide_eq_false_iff_not]
    omega
  have hag : agv n = true ∧ n.siz ≤ 480 := by
    unfold agv
    have hl := h.leaf
    cases lf
    · obtain ⟨h1, h2, h3⟩ := h.il rfl
      rw [hl, if_neg (by simp)]
      unfold lsz at hs
      rw [h1] at hs
      simp only [List.length_nil, tot, List.map_nil, List.sum_nil] at hs
      constructor
      · unfold agi
        simp only [Bool.and_eq_true, decide_eq_true_eq, Bool.not_eq_true']
        refine ⟨⟨⟨h2, by rw [h1]; rfl⟩, ?_⟩, unl_nodup (kids_nodup h3)⟩
        unfold anyI
        rw [List.any_eq_false]
        intro x hx
        obtain ⟨j, hj, rfl⟩ := List.mem_iff_getElem.1 hx
        have := h3 j hj
        rw [List.getD_eq_getElem?_getD, List.getElem?_eq_getElem hj] at this
        simp only [Option.getD_some] at this
        unfold nki
        simp only [Bool.or_eq_true, decide_eq_true_eq, not_or]
        omega
      · unfold Nd.siz
        rw [hl, if_neg (by simp)]
        simp only [tot]
        omega
    · obtain ⟨h1, h2, h3⟩ := h.vl rfl
      rw [hl, if_pos rfl]
      unfold lsz at hs
      rw [h2] at hs
      simp only [List.length_nil] at hs
      constructor
      · unfold agl
        simp only [Bool.and_eq_true, decide_eq_true_eq, Bool.not_eq_true']
        refine ⟨⟨h1, by rw [h2]; rfl⟩, ?_⟩
        unfold anyB
        rw [List.any_eq_false]
        intro x hx
        have := h3 x hx
        unfold lng
        simp only [decide_eq_true_eq]
        omega
      · unfold Nd.siz
        rw [hl, if_pos rfl]
        omega
  unfold wrv hfv
  rw [hag.1, decide_eq_true hp, hkok, Bool.and_self, if_pos rfl, if_pos rfl, if_neg (by have := hag.2; omega)]
/-- The first node, without keys. -/
theorem Mk.first (most : Nat) (h : 4 ≤ most) (lf : Bool) : Mk lf most ⟨lf, [], [], if lf then [] else [2]⟩ := by
  cases lf
  · refine ⟨rfl, fun q => (by cases q), fun _ => ⟨rfl, rfl, fun j hj => ?_⟩, List.Pairwise.nil, by simp, by simp [lsz, tot]; omega⟩
    simp only [Bool.false_eq_true, if_false, List.length_cons, List.length_nil] at hj
    obtain rfl : j = 0 := by omega
    simp
  · exact ⟨rfl, fun _ => ⟨rfl, rfl, by simp⟩, fun q => (by cases q), List.Pairwise.nil, by simp, by simp [lsz, tot]⟩
end Go.Proofs.YtllialbdofklgaaGreatDoor
