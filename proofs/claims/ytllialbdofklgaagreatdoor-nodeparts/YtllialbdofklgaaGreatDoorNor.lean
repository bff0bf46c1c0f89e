import Derived.Test.YtllialbdofklgaaGreatDoorNoq
import Derived.Test.YtllialbdofklgaaGreatDoorNon
namespace Go.Proofs.YtllialbdofklgaaGreatDoor
open Go.RowKit
set_option maxHeartbeats 16000000
set_option maxRecDepth 8000
theorem last_lt {l : List Bs} {key : Bs} (h : ∀ j, j < l.length → l.getD j [] < key) (h0 : 0 < l.length) : l.getD (l.length - 1) [] < key := h _ (by omega)
theorem join_parts (n : Nd) (i : Nat) (ka va ia kb vb ib : Option Addr) (kc vc ic kd vd id : Nat) (w : World) (hg : Grt n) (hp : Plc n i) (hb : NB n) (hm : NA (lft n i) ka va ia w) (hn : NA (rgt n i) kb vb ib w) :
    Calls Tryz.prog 41 #[nda (lft n i) ka va ia kc vc ic, S (kbt n i), nda (rgt n i) kb vb ib kd vd id] w fun e w' => ∃ vK vV vI, e = .returned (.tuple #[.agg #[.bool n.leaf, vK, vV, vI], I 0]) ∧ Rws w.heap.size n vK vV vI w' ∧ Below w.heap.size w w' := by
  obtain ⟨f1, f2, f3, f4⟩ := fit hg hp
  obtain ⟨a1, a2, a3⟩ := lft_ag hg hp
  obtain ⟨b1, b2, b3⟩ := rgt_ag hg hp
  obtain ⟨k1, k2, -⟩ := kbt_is hg hp
  have hjb := join_back hg hp
  have hl := lft_blw hg hp
  have hr := rgt_abv hg hp
  have w1 := wrv_ok (wrv_lft hg hp)
  have w2 := wrv_ok (wrv_rgt hg hp)
  have hnk : noKey (kbt n i) = false := by
    unfold noKey
    simp only [Bool.or_eq_false_iff, decide_eq_false_iff_not]
    omega
  have hlf := lft_leaf n i
  have hrf := rgt_leaf n i
  have hnb1 := hb.lft i
  have hnb2 := hb.rgt i
  have hun : n.leaf = false → unl ((lft n i).kids ++ (rgt n i).kids) = true := fun q => by
    have : (lft n i).kids ++ (rgt n i).kids = n.kids := by
      unfold lft rgt
      rw [q]
      simp
    rw [this]
    exact unl_nodup hg.nd
  have hsz := hg.hi
  have hag1 := a1
  have hag2 := b1
  have hlc := last_lt hl a2
  have hrc := hr 0 b2
  generalize kbt n i = key at *
  generalize lft n i = m at *
  generalize rgt n i = r at *
  rw [← hjb] at hsz hb
  have hend : ∀ {e : Ending} {w' : World}, (∃ vK vV vI, e = .returned (.tuple #[.agg #[.bool (jnn m key r).leaf, vK, vV, vI], I 0]) ∧ Rws w.heap.size (jnn m key r) vK vV vI w' ∧ Below w.heap.size w w') → (∃ vK vV vI, e = .returned (.tuple #[.agg #[.bool n.leaf, vK, vV, vI], I 0]) ∧ Rws w.heap.size n vK vV vI w' ∧ Below w.heap.size w w') := fun {e w'} q => by rw [hjb] at q; exact q
  refine Calls.mono (join_gen m r (jnn m key r) ka va ia kb vb ib kc vc ic kd vd id key w hm hn hnb1 hnb2 hb a2 b2 a1 b1 f2 f4 a3 b3 hnk (by omega) hsz ?_ ?_) (fun e w' q => hend q)
  · intro W q
    cases hL : n.leaf
    · rw [hL] at hlf hrf
      unfold agv at hag1 hag2
      rw [hlf] at hag1
      rw [hrf] at hag2
      simp only [Bool.false_eq_true, if_false, agi, Bool.and_eq_true, decide_eq_true_eq] at hag1 hag2
      have e1 := hag1.1.1.1
      have e2 := hag2.1.1.1
      have := w1.2.2.1
      have := w2.2.2.1
      exact goTogether_inner m r ka va ia kb vb ib kc vc ic kd vd id key W (hm.below q) (hn.below q) hlf hrf a2 b2 (by omega) (by omega) (by omega) (by omega) (by omega) (by omega) hlc (hrc.2 hL) (hun hL)
    · rw [hL] at hlf hrf
      exact goTogether_leaf m r ka va ia kb vb ib kc vc ic kd vd id key W (hm.below q) (hn.below q) hlf hrf a2 b2 hnb1.k hnb2.k hlc hrc.1
  · intro W q
    cases hL : n.leaf
    · rw [hL] at hlf hrf
      unfold agv at hag1 hag2
      rw [hlf] at hag1
      rw [hrf] at hag2
      simp only [Bool.false_eq_true, if_false, agi, Bool.and_eq_true, decide_eq_true_eq] at hag1 hag2
      have e1 := hag1.1.1.1
      have e2 := hag2.1.1.1
      have := w1.2.2.1
      have := w2.2.2.1
      refine (joined_inner m r ka va ia kb vb ib kc vc ic kd vd id key W (hm.below q) (hn.below q) hlf a2 b2 (by omega) (by omega) (by omega) (by omega) (by omega) (by omega)).mono ?_
      rintro e w' ⟨vK, vI, rfl, r1, r2, o1, o2, b⟩
      unfold jnn
      rw [hlf]
      simp only [Bool.false_eq_true, if_false]
      exact ⟨vK, .slice none 0 0, vI, rfl, ⟨r1, owns_nil _ _ _, r2, o1, (fun k hk => nomatch hk), o2⟩, b⟩
    · rw [hL] at hlf hrf
      unfold agv at hag1 hag2
      rw [hlf] at hag1
      rw [hrf] at hag2
      simp only [if_true, agl, Bool.and_eq_true, decide_eq_true_eq] at hag1 hag2
      have := w1.2.2.1
      have := w2.2.2.1
      have e1 := hag1.1.1
      have e2 := hag2.1.1
      refine (joinedL_any m r ka va ia kb vb ib kc vc ic kd vd id key W (hm.below q) (hn.below q) hlf (List.eq_nil_of_length_eq_zero hag1.1.2) (List.eq_nil_of_length_eq_zero hag2.1.2) a2 b2 (by omega) (by omega) (by omega) (by omega) (by omega) (by omega)).mono ?_
      rintro e w' ⟨vK, vV, rfl, r1, r2, o1, o2, b⟩
      unfold jnn
      rw [hlf]
      simp only [if_true]
      exact ⟨vK, vV, .slice none 0 0, rfl, ⟨r1, r2, owns_nil _ _ _, o1, o2, (fun k hk => nomatch hk)⟩, b⟩
end Go.Proofs.YtllialbdofklgaaGreatDoor
