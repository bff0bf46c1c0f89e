import Derived.Test.YtllialbdofklgaaGreatDoorNfi
namespace Go.Proofs.YtllialbdofklgaaGreatDoor
open Go.RowKit
/-! ### A node of raw cells -/
structure Mk (lf : Bool) (most : Nat) (n : Nd) : Prop where
  leaf : n.leaf = lf
  vl : lf = true → n.vals.length = n.keys.length ∧ n.kids = [] ∧ ∀ x ∈ n.vals, x.length ≤ 200
  il : lf = false → n.vals = [] ∧ n.kids.length = n.keys.length + 1 ∧ ∀ j, j < n.kids.length → (2 + 1000 * j : Int) ≤ n.kids.getD j 0 ∧ n.kids.getD j 0 < 2 + 1000 * (j + 1)
  ks : Rs n.keys
  kl : ∀ x ∈ n.keys, 1 ≤ x.length ∧ x.length ≤ 36
  sz : lsz n ≤ most
theorem ky_pos (k : Bs) : 1 ≤ (ky k).length ∧ (ky k).length ≤ 36 := by
  unfold ky
  split
  · simp
  · rename_i h
    refine ⟨List.length_pos_iff.2 h, by rw [List.length_take]; omega⟩
theorem blw_split : ∀ (l : List Bs) (key : Bs), Rs l → isat l key = false → (∀ x ∈ l.take (blw l key), x < key) ∧ ∀ x ∈ l.drop (blw l key), key < x
  | [], _, _, _ => by simp
  | a :: r, key, hs, ha => by
    by_cases h : a < key
    · have hb : blw (a :: r) key = blw r key + 1 := by rw [blw, if_pos h]
      have hr := (List.pairwise_cons.1 hs).2
      have ha' : isat r key = false := by
        unfold isat at ha ⊢
        rw [hb] at ha
        simpa using ha
      obtain ⟨h1, h2⟩ := blw_split r key hr ha'
      rw [hb]
      refine ⟨fun x hx => ?_, by simpa using h2⟩
      rw [List.take_succ_cons] at hx
      rcases List.mem_cons.1 hx with rfl | hx
      · exact h
      · exact h1 x hx
    · have hb : blw (a :: r) key = 0 := by rw [blw, if_neg h]
      rw [hb]
      refine ⟨by simp, fun x hx => ?_⟩
      have hne : a ≠ key := by
        intro e
        unfold isat at ha
        rw [hb] at ha
        simp [e] at ha
      have hlt : key < a := lt_total' h hne
      rw [List.drop_zero] at hx
      rcases List.mem_cons.1 hx with rfl | hx
      · exact hlt
      · exact lt_trans' hlt ((List.pairwise_cons.1 hs).1 x hx)
theorem ins_rs {l : List Bs} {key : Bs} (hs : Rs l) (ha : isat l key = false) : Rs (l.take (blw l key) ++ [key] ++ l.drop (blw l key)) := by
  obtain ⟨h1, h2⟩ := blw_split l key hs ha
  have h3 : Rs (l.take (blw l key)) := hs.sublist (List.take_sublist _ _)
  have h4 : Rs (l.drop (blw l key)) := hs.sublist (List.drop_sublist _ _)
  refine List.pairwise_append.2 ⟨List.pairwise_append.2 ⟨h3, List.pairwise_singleton _ _, fun a ha b hb => ?_⟩, h4, fun a ha b hb => ?_⟩
  · rw [List.mem_singleton.1 hb]; exact h1 a ha
  · rcases List.mem_append.1 ha with ha | ha
    · exact lt_trans' (h1 a ha) (h2 b hb)
    · rw [List.mem_singleton.1 ha]; exact h2 b hb
theorem ins_tot (l : List Bs) (i : Nat) (x : Bs) : tot (l.take i ++ [x] ++ l.drop i) = tot l + x.length := by
  have := tot_app (l.take i) (l.drop i)
  rw [List.take_append_drop] at this
  rw [tot_app, tot_app]
  simp only [tot, List.map_cons, List.map_nil, List.sum_cons, List.sum_nil] at *
  omega
theorem ins_len (l : List Bs) (i : Nat) (x : Bs) : (l.take i ++ [x] ++ l.drop i).length = l.length + 1 := by
  have : (l.take i ++ l.drop i).length = l.length := by rw [List.take_append_drop]
  simp only [List.length_append, List.length_cons, List.length_nil] at *
  omega
theorem ins_mem {l : List Bs} {i : Nat} {x y : Bs} (h : y ∈ l.take i ++ [x] ++ l.drop i) : y ∈ l ∨ y = x := by
  rcases List.mem_append.1 h with h | h
  · rcases List.mem_append.1 h with h | h
    · exact .inl (List.mem_of_mem_take h)
    · exact .inr (List.mem_singleton.1 h)
  · exact .inl (List.mem_of_mem_drop h)
theorem Mk.with {lf : Bool} {most : Nat} {n : Nd} (h : Mk lf most n) (k v : Bs) (r : Nat) (hr : r < 1000) : Mk lf most (wth n k v ((2 + 1000 * n.kids.length + r : Nat) : Int) most) := by
  unfold wth
  split
  · exact h
  · rename_i hq
    rw [not_or] at hq
    have ha : isat n.keys (ky k) = false := by simpa using hq.1
    have hz := hq.2
    have hky := ky_pos k
    have hv200 : (v.take 200).length ≤ 200 := by rw [List.length_take]; omega
    rw [h.leaf] at hz ⊢
    unfold mor at hz
    have hs := h.sz
    cases lf
    · obtain ⟨h1, h2, h3⟩ := h.il rfl
      rw [if_neg (by simp)] at hz ⊢
      refine ⟨rfl, fun q => (by cases q), fun _ => ⟨rfl, ?_, ?_⟩, ins_rs h.ks ha, ?_, ?_⟩
      · have hl := ins_len n.keys (blw n.keys (ky k)) (ky k)
        simp only [List.length_append, List.length_cons, List.length_nil] at hl ⊢
        omega
      · intro j hj
        simp only [List.length_append, List.length_cons, List.length_nil] at hj
        by_cases e : j < n.kids.length
        · have := h3 j e
          simp only [List.getD_eq_getElem?_getD, List.getElem?_append_left e] at this ⊢
          exact this
        · obtain rfl : j = n.kids.length := by omega
          simp only [List.getD_eq_getElem?_getD, List.getElem?_append_right (Nat.le_refl _), Nat.sub_self, List.getElem?_cons_zero, Option.getD_some]
          omega
      · intro x hx
        rcases ins_mem hx with hx | rfl
        · exact h.kl x hx
        · exact hky
      · have hl := ins_len n.keys (blw n.keys (ky k)) (ky k)
        have ht := ins_tot n.keys (blw n.keys (ky k)) (ky k)
        have hk1 : (n.kids ++ [((2 + 1000 * n.kids.length + r : Nat) : Int)]).length = n.kids.length + 1 := by simp
        have t0 : tot [] = 0 := rfl
        unfold lsz at hs hz ⊢
        rw [h1] at hz
        dsimp only
        rw [hl, ht, hk1]
        simp only [List.length_nil, t0] at hz ⊢
        omega
    · obtain ⟨h1, h2, h3⟩ := h.vl rfl
      rw [if_pos rfl] at hz ⊢
      refine ⟨rfl, fun _ => ⟨?_, rfl, ?_⟩, fun q => (by cases q), ins_rs h.ks ha, ?_, ?_⟩
      · rw [ins_len, ins_len]; omega
      · intro x hx
        rcases ins_mem hx with hx | rfl
        · exact h3 x hx
        · exact hv200
      · intro x hx
        rcases ins_mem hx with hx | rfl
        · exact h.kl x hx
        · exact hky
      · have hl := ins_len n.keys (blw n.keys (ky k)) (ky k)
        have ht := ins_tot n.keys (blw n.keys (ky k)) (ky k)
        have hl2 := ins_len n.vals (blw n.keys (ky k)) (v.take 200)
        have ht2 := ins_tot n.vals (blw n.keys (ky k)) (v.take 200)
        unfold lsz at hs hz ⊢
        dsimp only
        rw [hl, ht, hl2, ht2, List.length_nil]
        omega
theorem kids_nodup {l : List Int} (h : ∀ j, j < l.length → (2 + 1000 * j : Int) ≤ l.getD j 0 ∧ l.getD j 0 < 2 + 1000 * (j + 1)) : l.Nodup := by
  refine List.pairwise_iff_getElem.2 fun i j hi hj hij => ?_
  have h1 := (h i hi).2
  have h2 := (h j hj).1
  rw [List.getD_eq_getElem?_getD, List.getElem?_eq_getElem hi] at h1
  rw [List.getD_eq_getElem?_getD, List.getElem?_eq_getElem hj] at h2
  simp only [Option.getD_some] at h1 h2
  omega
/-- Such a node is right, if it has a key and no more than 480 bytes. -/
theorem Mk.right {lf : Bool} {most : Nat} {n : Nd} (h : Mk lf most n) (hm : most ≤ 480) (hk : n.keys ≠ []) : wrv n = 0 := by
  have hp : 0 < n.keys.length := List.length_pos_iff.2 hk
  have hs := h.sz
  have hkok : kok n.keys = true := by
    unfold kok
    rw [Bool.and_eq_true, (up_iff _).2 h.ks]
    refine ⟨List.all_eq_true.2 fun x hx => ?_, rfl⟩
    have := h.kl x hx
    unfold noKey
    simp only [Bool.not_eq_true', Bool.or_eq_false_iff, decide_eq_false_iff_not]
    omega
  have hag : agv n = true ∧ n.siz ≤ 480 := by
    unfold agv
    have hl := h.leaf
    cases lf
    · obtain ⟨h1, h2, h3⟩ := h.il rfl
      rw [hl, if_neg (by simp)]
      unfold lsz at hs
      rw [h1] at hs
      simp only [List.length_nil, tot, List.map_nil, List.sum_nil] at hs
      constructor
      · unfold agi
        simp only [Bool.and_eq_true, decide_eq_true_eq, Bool.not_eq_true']
        refine ⟨⟨⟨h2, by rw [h1]; rfl⟩, ?_⟩, unl_nodup (kids_nodup h3)⟩
        unfold anyI
        rw [List.any_eq_false]
        intro x hx
        obtain ⟨j, hj, rfl⟩ := List.mem_iff_getElem.1 hx
        have := h3 j hj
        rw [List.getD_eq_getElem?_getD, List.getElem?_eq_getElem hj] at this
        simp only [Option.getD_some] at this
        unfold nki
        simp only [Bool.or_eq_true, decide_eq_true_eq, not_or]
        omega
      · unfold Nd.siz
        rw [hl, if_neg (by simp)]
        simp only [tot]
        omega
    · obtain ⟨h1, h2, h3⟩ := h.vl rfl
      rw [hl, if_pos rfl]
      unfold lsz at hs
      rw [h2] at hs
      simp only [List.length_nil] at hs
      constructor
      · unfold agl
        simp only [Bool.and_eq_true, decide_eq_true_eq, Bool.not_eq_true']
        refine ⟨⟨h1, by rw [h2]; rfl⟩, ?_⟩
        unfold anyB
        rw [List.any_eq_false]
        intro x hx
        have := h3 x hx
        unfold lng
        simp only [decide_eq_true_eq]
        omega
      · unfold Nd.siz
        rw [hl, if_pos rfl]
        omega
  unfold wrv hfv
  rw [hag.1, decide_eq_true hp, hkok, Bool.and_self, if_pos rfl, if_pos rfl, if_neg (by have := hag.2; omega)]
/-- The first node, without keys. -/
theorem Mk.first (most : Nat) (h : 4 ≤ most) (lf : Bool) : Mk lf most ⟨lf, [], [], if lf then [] else [2]⟩ := by
  cases lf
  · refine ⟨rfl, fun q => (by cases q), fun _ => ⟨rfl, rfl, fun j hj => ?_⟩, List.Pairwise.nil, by simp, by simp [lsz, tot]; omega⟩
    simp only [Bool.false_eq_true, if_false, List.length_cons, List.length_nil] at hj
    obtain rfl : j = 0 := by omega
    simp
  · exact ⟨rfl, fun _ => ⟨rfl, rfl, by simp⟩, fun q => (by cases q), List.Pairwise.nil, by simp, by simp [lsz, tot]⟩
end Go.Proofs.YtllialbdofklgaaGreatDoor
