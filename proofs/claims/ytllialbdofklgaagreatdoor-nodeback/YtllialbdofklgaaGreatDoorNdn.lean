import Derived.Test.YtllialbdofklgaaGreatDoorNdm
import Derived.Lib.AppendZerosOnto
namespace Go.Proofs.YtllialbdofklgaaGreatDoor
open Go.RowKit
set_option maxHeartbeats 8000000
set_option maxRecDepth 8000
theorem zero9 (k : Nat) : (Builtin.zeroCells (Value.string ⟨#[]⟩).cells k).size = k := by
  simp [Builtin.zeroCells, Value.cells]
theorem wp_gz {ops : Array Oper} {rest : List Oper} {o : Oper} {a : Act} {Q : Exit → Act → World → Prop} {w w1 : World} {v : Value} {n : Nat} (hgd : o.guard = none) (s x : Operand) (ho : o.op = .call { callee := .builtin .append, args := #[s, x], argTypes := #[22, 3] })
    (hs : a.eval s = .slice none 0 0) (hx : a.eval x = I n) (hr : ∀ ty, (Builtin.append_ #[22, 3] ty #[.slice none 0 0, I n]).run Tryz.prog w = .ok v w1) (h : wpList Tryz.prog ops Q rest (a.put o.dst v) w1) : wpList Tryz.prog ops Q (o :: rest) a w := by
  refine wpList_plain hgd fun K hK => ?_
  unfold Oper.wp execOp
  simp only [ho, resolve, invoke, builtin, Sem.run_bind, Sem.run_pure, Result.andThen_ok, List.map_toArray, List.map_cons, List.map_nil, hs, hx, hr]
  exact hK _ _ h
/-- slices.Grow of nil. -/
theorem grow_nil (n : Nat) (w : World) (hn : n ≤ 4294967296) :
    Calls Tryz.prog 126 #[.slice none 0 0, I n] w fun e w' => ∃ V, e = .returned V ∧ w'.ownsRow 0 9 1 V 0 [] ∧ (∀ k, V.ownBlock = some k → w.heap.size ≤ k) ∧ Below w.heap.size w w' := by
  by_cases h0 : n = 0
  · subst h0
    go_enter Tryz.func126, Tryz.ntmps126
    go_wp2
    go_ret
    exact ⟨_, rfl, owns_nil _ _ _, (fun k hk => nomatch hk), Below.refl _ _⟩
  · obtain ⟨i0, hi0, hz0, hz1, hz2⟩ := info_parts info9
    have hold : (Builtin.firstCells i0.size 0 (.slice none 0 0)).run Tryz.prog w.drew = .ok ([] : List Value).toArray w.drew := by
      simp [Builtin.firstCells]
    have hr0 := fun ty => Lib.run_append_grow_zeros w 22 3 ty 9 i0 _ .i64 .i64 Tryz.underlying22 Tryz.underlying3 hi0 hz0 none 0 0 [] hold n (by omega) (by rw [hz1]; omega) (by omega) (by omega) (by rw [hz2]; omega) (by rw [hz2, Nat.zero_add, nextslicecap_zero (by omega)]; omega)
    simp only [Nat.zero_add] at hr0
    have hG1 := grownCap_ge w n 0 9
    have hG2 := grownCap_le_maxLen w n 0 9 (by unfold maxLen; omega)
    generalize grownCap w n 0 9 = G at *
    have hG3 : G ≤ 9223372036854775807 := by unfold maxLen at hG2; omega
    obtain ⟨ROW, hROW⟩ : ∃ ROW : Array Value, ROW = ([] : List Value).toArray ++ Builtin.zeroCells (Value.string ⟨#[]⟩).cells n ++ Builtin.zeroCells (Value.string ⟨#[]⟩).cells (G - n) := ⟨_, rfl⟩
    simp only [← hROW] at hr0
    have hRs : ROW.size = G * 1 := by
      rw [hROW]
      simp only [Array.size_append, zero9, List.size_toArray, List.length_nil]
      omega
    obtain ⟨w1, e1⟩ : ∃ w1, w1 = w.drew.alloc (.cells ROW 9) := ⟨_, rfl⟩
    simp only [← e1] at hr0
    have HR0 := hide hr0
    clear hr0
    have B1 : Below w.heap.size w w1 := by rw [e1]; exact (Below.refl _ _).drew.alloc (Nat.le_refl _) _
    have hg1 : w1.heap[w.heap.size]? = some (.cells ROW 9 (0, 0)) := by rw [e1]; exact heap_alloc_new w.drew _
    have HO : Hid (w1.ownsRow 0 9 1 (.slice (some ⟨w.heap.size, 0, none⟩) 0 G) 0 []) := ⟨rfl, .inr ⟨w.heap.size, G, ROW, rfl, Nat.zero_le _, hg1, Nat.zero_le _, hG2, hRs, rfl⟩⟩
    have HB := hide B1
    have hn' : (0 : Int) < (n : Int) := by omega
    clear hold hROW hRs e1 B1 hg1 hG2
    go_enter Tryz.func126, Tryz.ntmps126
    go_wp2_with (at_builtin; refine wp_gz (n := n) rfl (.tmp 20) (.tmp 21) rfl (by rfl) (by rfl) (unhide HR0) ?_)
    go_ret
    exact ⟨_, rfl, unhide HO, fun k hk => by cases hk; exact Nat.le_refl _, unhide HB⟩
/-- Texts behind a row of one's own. -/
theorem wp_appS {ops : Array Oper} {rest : List Oper} {o : Oper} {a : Act} {Q : Exit → Act → World → Prop} {w : World} (hgd : o.guard = none) (s x : Operand) (ho : o.op = .call { callee := .builtin .append, args := #[s, x], argTypes := #[22, 22] })
    (v : Value) (n : Nat) (l : List Bs) (hs : a.eval s = v) (hown : w.ownsRow 0 9 1 v n (l.map S)) (g q m c : Nat) (u : List Bs) (hu : Sts w (some ⟨g, q, none⟩) m u) (hx : a.eval x = .slice (some ⟨g, q, none⟩) m c) (hl : n + m ≤ 8589934592) 
    (h : ∀ p cap w', w'.ownsRow 0 9 1 (.slice p (n + m) cap) (n + m) ((l ++ u).map S) → Only (fun k => v.ownBlock = some k) w w' → (∀ k, (Value.slice p (n + m) cap).ownBlock = some k → v.ownBlock = some k ∨ w.heap.size ≤ k) → wpList Tryz.prog ops Q rest (a.put o.dst (.slice p (n + m) cap)) w') :
    wpList Tryz.prog ops Q (o :: rest) a w := by
  obtain ⟨i0, hi, hz0, hz1, hz2⟩ := info_parts info9
  obtain ⟨v', w', hr, h2, h3, _, h5⟩ := run_append_own_at (P := Tryz.prog) w 0 22 o.type 9 i0 (.string ⟨#[]⟩) 1 16 Tryz.underlying22 hi hz0 hz1 hz2 rfl (by decide) v n (l.map S) hown ⟨g, q, none⟩ m c (u.map S) (by rw [List.length_map, ← hu.1]; omega) (fun j z hj => by
      rw [add_off]
      obtain ⟨hj1, hj2⟩ := List.getElem?_eq_some_iff.1 hj
      rw [List.length_map] at hj1
      obtain ⟨p, o, e, hcs⟩ := hu.2 (by rw [hu.1]; omega)
      cases e
      rw [hcs j (by rw [hu.1]; exact hj1), ← hj2, List.getElem_map, List.getD_eq_getElem?_getD, List.getElem?_eq_getElem hj1]
      rfl) (by intro z hz; obtain ⟨y, _, rfl⟩ := List.mem_map.1 hz; rfl) (by unfold maxLen; omega) (by omega) (Nat.zero_le _)
  rw [← List.map_append] at h2
  obtain ⟨p, cap, rfl⟩ := owns_form h2
  refine wpList_plain hgd fun K hK => ?_
  unfold Oper.wp execOp
  simp only [ho, resolve, invoke, builtin, Sem.run_bind, Sem.run_pure, Result.andThen_ok, List.map_toArray, List.map_cons, List.map_nil, hs, hx, hr]
  refine hK _ _ (h p cap w' h2 (Only.of_grown h3) ?_)
  intro k hk
  rcases h5 with h5 | h5
  · left; rw [← h5]; exact hk
  · right; rw [hk] at h5; have := Option.some.inj h5; omega
/-- slices.Concat of two rows of texts. -/
theorem concat2 (g g1 o1 n1 c1 g2 o2 n2 c2 : Nat) (l1 l2 : List Bs) (w : World) (hg : w.heap[g]? = some (.cells #[.slice (some ⟨g1, o1, none⟩) n1 c1, .slice (some ⟨g2, o2, none⟩) n2 c2] 22 (0, 0)))
    (h1 : Sts w (some ⟨g1, o1, none⟩) n1 l1) (h2 : Sts w (some ⟨g2, o2, none⟩) n2 l2) (b1 : n1 ≤ 2147483648) (b2 : n2 ≤ 2147483648) :
    Calls Tryz.prog 105 #[.slice (some ⟨g, 0, none⟩) 2 2] w fun e w' => ∃ V, e = .returned V ∧ w'.ownsRow 0 9 1 V (n1 + n2) ((l1 ++ l2).map S) ∧ (∀ k, V.ownBlock = some k → w.heap.size ≤ k) ∧ Below w.heap.size w w' := by
  have k0 : w.cell? ⟨g, 0, none⟩ = some (.slice (some ⟨g1, o1, none⟩) n1 c1) := by rw [cell_of_row w g 0 _ 22 (0, 0) hg]; rfl
  have k1 : w.cell? ⟨g, 1, none⟩ = some (.slice (some ⟨g2, o2, none⟩) n2 c2) := by rw [cell_of_row w g 1 _ 22 (0, 0) hg]; rfl
  have hgl := lt_of_row hg
  have HG := hide hg
  have S1 := hide h1
  have S2 := hide h2
  have H0 := hide (grow_nil (n1 + n2) w (by omega))
  clear h1 h2 hg
  go_enter Tryz.func105, Tryz.ntmps105
  go_wp2
  go_loopw [3, 11] (fun s i wr => ∃ k : Nat, k ≤ 2 ∧ i = .int .i64 k ∧ s = .int .i64 ((if k = 0 then 0 else if k = 1 then n1 else n1 + n2 : Nat) : Int) ∧ wr = w) (fun _ i _ => 2 - (Go.RowKit.intOf i).toNat)
  case atStart => exact ⟨0, by omega, rfl, rfl, rfl⟩
  case round =>
    obtain ⟨k, hk, rfl, rfl, rfl⟩ := hrel
    match k, hk with
    | 0, _ =>
      simp only [if_true]
      go_wp2
      go_round
      case measure => simp [Go.RowKit.intOf]
      case rel => exact ⟨1, by omega, by simp, by simp, by first | trivial | rfl⟩
    | 1, _ =>
      simp only [if_true, Nat.one_ne_zero, if_false]
      go_wp2
      go_round
      case measure => simp [Go.RowKit.intOf]
      case rel => exact ⟨2, by omega, by simp, by simp, by first | trivial | rfl⟩
    | 2, _ =>
      simp only [show (2 : Nat) = 0 ↔ False by decide, show (2 : Nat) = 1 ↔ False by decide, if_false]
      go_wp2_with fail
      refine (unhide H0).mono ?_
      rintro e w2 ⟨V, rfl, r2, o2', b2'⟩
      have HR := hide r2
      have HV := hide o2'
      have HB := hide b2'
      clear r2 o2' b2' H0
      go_wp2
      go_loopw [6, 27] (fun v i W => ∃ k : Nat, k ≤ 2 ∧ i = .int .i64 k ∧ W.ownsRow 0 9 1 v (if k = 0 then 0 else if k = 1 then n1 else n1 + n2) ((if k = 0 then [] else if k = 1 then l1 else l1 ++ l2 : List Bs).map S) ∧ (∀ j, v.ownBlock = some j → wr.heap.size ≤ j) ∧ Below wr.heap.size wr W) (fun _ i _ => 2 - (Go.RowKit.intOf i).toNat)
      case atStart => exact ⟨0, by omega, rfl, unhide HR, unhide HV, unhide HB⟩
      case round =>
        clear HR HV HB
        obtain ⟨k, hk, rfl, hr, hv, hb⟩ := hrel
        have HB := hide hb
        have HV := hide hv
        match k, hk with
        | 0, _ =>
          simp only [if_true] at hr
          obtain ⟨p, c, rfl⟩ := owns_form hr
          have HR := hide hr
          have k0' := (hb.cell hgl).trans k0
          have T1 := hide ((unhide S1).below hb)
          have hgl' := Nat.lt_of_lt_of_le hgl hb.size
          clear hr hv hb
          go_wp2_with (at_builtin; refine wp_appS rfl (.tmp 31) (.tmp 32) rfl (.slice p 0 c) 0 [] (by rfl) (unhide HR) g1 o1 n1 c1 l1 (unhide T1) (by rfl) (by omega) ?_; intro p3 c3 w3 r3 o3 n3; have HR3 := hide r3; have HO3 := hide o3; have HN3 := hide n3; clear r3 o3 n3)
          go_round
          case measure => simp [Go.RowKit.intOf]
          case rel =>
            refine ⟨1, by omega, by simp, by simpa using unhide HR3, fun j hj => ?_, (unhide HO3).below (unhide HB) (unhide HB).size (fun j hj => unhide HV j hj)⟩
            rcases unhide HN3 j (by rw [Nat.zero_add]; exact hj) with q | q
            · exact unhide HV j q
            · exact Nat.le_trans (unhide HB).size q
        | 1, _ =>
          simp only [if_true, Nat.one_ne_zero, if_false] at hr
          obtain ⟨p, c, rfl⟩ := owns_form hr
          have HR := hide hr
          have k1' := (hb.cell hgl).trans k1
          have T1 := hide ((unhide S2).below hb)
          have hgl' := Nat.lt_of_lt_of_le hgl hb.size
          clear hr hv hb
          go_wp2_with (at_builtin; refine wp_appS rfl (.tmp 31) (.tmp 32) rfl (.slice p n1 c) n1 l1 (by rfl) (unhide HR) g2 o2 n2 c2 l2 (unhide T1) (by rfl) (by omega) ?_; intro p3 c3 w3 r3 o3 n3; have HR3 := hide r3; have HO3 := hide o3; have HN3 := hide n3; clear r3 o3 n3)
          go_round
          case measure => simp [Go.RowKit.intOf]
          case rel =>
            refine ⟨2, by omega, by simp, unhide HR3, fun j hj => ?_, (unhide HO3).below (unhide HB) (unhide HB).size (fun j hj => unhide HV j hj)⟩
            rcases unhide HN3 j hj with q | q
            · exact unhide HV j q
            · exact Nat.le_trans (unhide HB).size q
        | 2, _ =>
          simp only [show (2 : Nat) = 0 ↔ False by decide, show (2 : Nat) = 1 ↔ False by decide, if_false] at hr
          have HR := hide hr
          clear hr hv hb
          go_wp2
          go_ret
          exact ⟨_, rfl, unhide HR, unhide HV, unhide HB⟩
end Go.Proofs.YtllialbdofklgaaGreatDoor
