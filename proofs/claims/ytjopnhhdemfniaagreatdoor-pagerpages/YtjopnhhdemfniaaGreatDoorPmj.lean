import Derived.Test.YtjopnhhdemfniaaGreatDoorPmi
namespace Go.Proofs.YtjopnhhdemfniaaGreatDoor
open Go.RowKit
set_option maxHeartbeats 8000000
set_option maxRecDepth 8000
/-- What a list reads while lists are marked. -/
def ctn (n : Nat → Nat) (l : Nat → List Int) (i k m : Nat) : List Int := if m < i then List.replicate (n m) (mk9 m) else if m = i then List.replicate k (mk9 m) ++ (l m).drop k else l m
theorem ctn_zero (n : Nat → Nat) (l : Nat → List Int) : ctn n l 0 0 = l := by
  funext m
  unfold ctn
  rw [if_neg (by omega)]
  split <;> simp
theorem ctn_next (n : Nat → Nat) (l : Nat → List Int) (i : Nat) (h : (l i).length = n i) : ctn n l i (n i) = ctn n l (i + 1) 0 := by
  funext m
  unfold ctn
  by_cases h1 : m < i
  · rw [if_pos h1, if_pos (by omega)]
  · rw [if_neg h1]
    by_cases h2 : m = i
    · subst h2
      rw [if_pos rfl, if_pos (by omega), List.drop_of_length_le (by omega), List.append_nil]
    · rw [if_neg h2, if_neg (by omega)]
      split <;> simp
theorem ctn_set (n : Nat → Nat) (l : Nat → List Int) (i k : Nat) (h : (l i).length = n i) (hk : k < n i) : (ctn n l i k i).set k (mk9 i) = ctn n l i (k + 1) i := by
  unfold ctn
  rw [if_neg (by omega), if_pos rfl, if_neg (by omega), if_pos rfl, List.set_append_right _ _ (by simp), List.length_replicate, Nat.sub_self, List.drop_eq_getElem_cons (by omega), List.set_cons_zero, List.replicate_succ', List.append_assoc]
  rfl
theorem ctn_other (n : Nat → Nat) (l : Nat → List Int) (i k m : Nat) (h : m ≠ i) : ctn n l i (k + 1) m = ctn n l i k m := by
  unfold ctn
  by_cases h1 : m < i
  · rw [if_pos h1, if_pos h1]
  · rw [if_neg h1, if_neg h1, if_neg h, if_neg h]
structure MK (w0 : World) (B b N : Nat) (v : Nat → Value) (n : Nat → Nat) (l : Nat → List Int) (vL : Value) (i k : Nat) (W : World) : Prop where
  blk : W.heap[b]? = some (.cells #[.slice none 0 0, .slice none 0 0, vL, .slice none 0 0, .slice none 0 0] 32 (0, 0))
  lr : W.ownsRow 0 22 1 vL N ((List.range N).map v)
  ow : ∀ m, m < N → W.ownsRow 0 3 1 (v m) (n m) ((ctn n l i k m).map fun z => I z)
  ap : ∀ m m' k, m < N → m' < N → m ≠ m' → (v m).ownBlock = some k → (v m').ownBlock ≠ some k
  ln : ∀ m, (l m).length = n m
  few : ∀ m, n m ≤ 1000
  bB : B ≤ b ∧ B ≤ W.heap.size
  bl : ∀ k, vL.ownBlock = some k → B ≤ k
  bv : ∀ m, m < N → ∀ k, (v m).ownBlock = some k → B ≤ k
  bel : Below B w0 W
variable {w0 : World} {B b N : Nat} {v : Nat → Value} {n : Nat → Nat} {l : Nat → List Int} {vL : Value} {i k : Nat} {W W' : World}
theorem MK.next (h : MK w0 B b N v n l vL i (n i) W) : MK w0 B b N v n l vL (i + 1) 0 W :=
  ⟨h.blk, h.lr, fun m hm => by rw [← ctn_next n l i (h.ln i)]; exact h.ow m hm, h.ap, h.ln, h.few, h.bB, h.bl, h.bv, h.bel⟩
theorem MK.mark (h : MK w0 B b N v n l vL i k W) (hi : i < N) (hk : k < n i) {g cap : Nat} (hv : v i = .slice (some ⟨g, 0, none⟩) (n i) cap) : MK w0 B b N v n l vL i (k + 1) (W.setCell ⟨g, k, none⟩ (I (mk9 i))) := by
  have hi' := h.ow i hi
  rw [hv] at hi'
  have o := Only.setCell W ⟨g, k, none⟩ (I (mk9 i))
  have hgi : (v i).ownBlock = some g := by rw [hv]; rfl
  obtain ⟨cs, hgr⟩ := owns_lt (h.ow i hi) g hgi
  refine ⟨(o.block b (lt_of_row h.blk) (fun e => ?_)).trans h.blk, owns_only h.lr o (fun x hx e => ?_), fun m hm => ?_, h.ap, h.ln, h.few, ⟨h.bB.1, Nat.le_trans h.bB.2 o.size⟩, h.bl, h.bv, o.below h.bel h.bB.2 (fun x hx => ?_)⟩
  · rw [← show b = g from e, h.blk] at hgr
    cases hgr
  · obtain ⟨cs2, q⟩ := owns_lt h.lr x hx
    rw [show x = g from e, hgr] at q
    cases q
  · by_cases hc : m = i
    · subst hc
      have q := owns_set hi' k (I (mk9 m))
      rw [hv, ← ctn_set n l m k (h.ln m) hk, List.map_set]
      exact q
    · rw [ctn_other n l i k m hc]
      exact owns_only (h.ow m hm) o (fun x hx e => h.ap i m x hi hm (Ne.symm hc) (by rw [show x = g from e]; exact hgi) hx)
  · rw [show x = g from hx]
    exact h.bv i hi g hgi
def tag9 (N : Nat) (v : Nat → Value) : Tgs := fun k => (List.range N).find? fun m => decide ((v m).ownBlock = some k)
def used9 (N : Nat) (v : Nat → Value) (n : Nat → Nat) : Nat → Nat := fun k => match tag9 N v k with
  | some m => n m
  | none => 0
theorem tag9_some {k m : Nat} (h : tag9 N v k = some m) : m < N ∧ (v m).ownBlock = some k := by
  unfold tag9 at h
  have h1 := List.find?_some h
  have h2 := List.mem_of_find?_eq_some h
  exact ⟨List.mem_range.1 h2, by simpa using h1⟩
theorem tag9_is (ap : ∀ m m' k, m < N → m' < N → m ≠ m' → (v m).ownBlock = some k → (v m').ownBlock ≠ some k) {k m : Nat} (hm : m < N) (hk : (v m).ownBlock = some k) : tag9 N v k = some m := by
  cases h : tag9 N v k with
  | none =>
    unfold tag9 at h
    have := List.find?_eq_none.1 h m (List.mem_range.2 hm)
    simp [hk] at this
  | some m' =>
    obtain ⟨h1, h2⟩ := tag9_some h
    by_cases e : m' = m
    · rw [e]
    · exact absurd hk (ap m' m k h1 hm e h2)
theorem MK.done (h : MK w0 B b N v n l vL N 0 W) : SG w0 B b N v n vL (.slice none 0 0) (.slice none 0 0) [] [] (tag9 N v) (used9 N v n) 0 W := by
  have hc : ∀ m, m < N → W.ownsRow 0 3 1 (v m) (n m) (List.replicate (n m) (I (mk9 m))) := fun m hm => by
    have q := h.ow m hm
    unfold ctn at q
    rw [if_pos hm, List.map_replicate] at q
    exact q
  have hu : ∀ m, m < N → ∀ k, (v m).ownBlock = some k → tag9 N v k = some m ∧ used9 N v n k = n m := fun m hm k hk => by
    have q := tag9_is h.ap hm hk
    refine ⟨q, ?_⟩
    unfold used9
    rw [q]
  refine ⟨h.blk, h.lr, owns_nil _ _ _, owns_nil _ _ _, (fun _ _ q => nomatch q), (fun _ q => nomatch q), ⟨fun k m hk => ?_⟩, fun m hm => ?_, (fun t q => absurd q (Nat.not_lt_zero t)), fun m _ hm => ⟨hc m hm, hu m hm⟩, h.few, h.bB, h.bl, (fun _ q => nomatch q), (fun _ q => nomatch q), fun k m hk => ?_, h.bel⟩
  · obtain ⟨h1, h2⟩ := tag9_some hk
    obtain ⟨cs, q⟩ := owns_lt (hc m h1) k h2
    refine ⟨cs, q, fun j hj => ?_⟩
    rw [(hu m h1 k h2).2] at hj
    obtain ⟨g, cap, cur, e, _⟩ := owns_at (hc m h1) (by omega)
    have hcm := hc m h1
    rw [e] at hcm h2
    have hgk : g = k := by simpa [Value.ownBlock] using h2
    subst hgk
    exact owns_cell hcm j _ (repl_at _ _ _ hj)
  · obtain ⟨p, c, e⟩ := owns_form (hc m hm)
    refine ⟨p, c, e, fun hn => ?_⟩
    obtain ⟨g, cap, cur, e2, _⟩ := owns_at (hc m hm) hn
    rw [e] at e2
    cases e2
    have q := hu m hm g (by rw [e]; rfl)
    exact ⟨g, rfl, q.1, by rw [q.2]; exact Nat.le_refl _⟩
  · obtain ⟨h1, h2⟩ := tag9_some hk
    exact h.bv m h1 k h2
end Go.Proofs.YtjopnhhdemfniaaGreatDoor
