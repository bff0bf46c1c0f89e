import Derived.Test.YtllialbdofklgaaGreatDoorNfi
import Derived.Test.YtllialbdofklgaaGreatDoorNfd
import Derived.Test.YtllialbdofklgaaGreatDoorZzaq
namespace Go.Proofs.YtllialbdofklgaaGreatDoor
open Go.RowKit
set_option maxHeartbeats 8000000
set_option maxRecDepth 8000
theorem zero3 (k : Nat) : (Builtin.zeroCells (Value.int .i64 0).cells k).size = k := by
  simp [Builtin.zeroCells, Value.cells]
theorem wp_gzI {ops : Array Oper} {rest : List Oper} {o : Oper} {a : Act} {Q : Exit → Act → World → Prop} {w w1 : World} {v : Value} {n : Nat} (hgd : o.guard = none) (s x : Operand) (ho : o.op = .call { callee := .builtin .append, args := #[s, x], argTypes := #[23, 3] })
    (hs : a.eval s = .slice none 0 0) (hx : a.eval x = I n) (hr : ∀ ty, (Builtin.append_ #[23, 3] ty #[.slice none 0 0, I n]).run Tryz.prog w = .ok v w1) (h : wpList Tryz.prog ops Q rest (a.put o.dst v) w1) : wpList Tryz.prog ops Q (o :: rest) a w := by
  refine wpList_plain hgd fun K hK => ?_
  unfold Oper.wp execOp
  simp only [ho, resolve, invoke, builtin, Sem.run_bind, Sem.run_pure, Result.andThen_ok, List.map_toArray, List.map_cons, List.map_nil, hs, hx, hr]
  exact hK _ _ h
/-- slices.Grow of nil. -/
theorem growI_nil (n : Nat) (w : World) (hn : n ≤ 4294967296) :
    Calls Tryz.prog 125 #[.slice none 0 0, I n] w fun e w' => ∃ V, e = .returned V ∧ w'.ownsRow 0 3 1 V 0 [] ∧ (∀ k, V.ownBlock = some k → w.heap.size ≤ k) ∧ Below w.heap.size w w' := by
  by_cases h0 : n = 0
  · subst h0
    go_enter Tryz.func125, Tryz.ntmps125
    go_wp2
    go_ret
    exact ⟨_, rfl, owns_nil _ _ _, (fun k hk => nomatch hk), Below.refl _ _⟩
  · obtain ⟨i0, hi0, hz0, hz1, hz2⟩ := info_parts info3
    have hold : (Builtin.firstCells i0.size 0 (.slice none 0 0)).run Tryz.prog w.drew = .ok ([] : List Value).toArray w.drew := by
      simp [Builtin.firstCells]
    have hr0 := fun ty => Lib.run_append_grow_zeros w 23 3 ty 3 i0 _ .i64 .i64 Tryz.underlying23 Tryz.underlying3 hi0 hz0 none 0 0 [] hold n (by omega) (by rw [hz1]; omega) (by omega) (by omega) (by rw [hz2]; omega) (by rw [hz2, Nat.zero_add, nextslicecap_zero (by omega)]; omega)
    simp only [Nat.zero_add] at hr0
    have hG1 := grownCap_ge w n 0 3
    have hG2 := grownCap_le_maxLen w n 0 3 (by unfold maxLen; omega)
    generalize grownCap w n 0 3 = G at *
    have hG3 : G ≤ 9223372036854775807 := by unfold maxLen at hG2; omega
    obtain ⟨ROW, hROW⟩ : ∃ ROW : Array Value, ROW = ([] : List Value).toArray ++ Builtin.zeroCells (Value.int .i64 0).cells n ++ Builtin.zeroCells (Value.int .i64 0).cells (G - n) := ⟨_, rfl⟩
    simp only [← hROW] at hr0
    have hRs : ROW.size = G * 1 := by
      rw [hROW]
      simp only [Array.size_append, zero3, List.size_toArray, List.length_nil]
      omega
    obtain ⟨w1, e1⟩ : ∃ w1, w1 = w.drew.alloc (.cells ROW 3) := ⟨_, rfl⟩
    simp only [← e1] at hr0
    have HR0 := hide hr0
    clear hr0
    have B1 : Below w.heap.size w w1 := by rw [e1]; exact (Below.refl _ _).drew.alloc (Nat.le_refl _) _
    have hg1 : w1.heap[w.heap.size]? = some (.cells ROW 3 (0, 0)) := by rw [e1]; exact heap_alloc_new w.drew _
    have HO : Hid (w1.ownsRow 0 3 1 (.slice (some ⟨w.heap.size, 0, none⟩) 0 G) 0 []) := ⟨rfl, .inr ⟨w.heap.size, G, ROW, rfl, Nat.zero_le _, hg1, Nat.zero_le _, hG2, hRs, rfl⟩⟩
    have HB := hide B1
    have hn' : (0 : Int) < (n : Int) := by omega
    clear hold hROW hRs e1 B1 hg1 hG2
    go_enter Tryz.func125, Tryz.ntmps125
    go_wp2_with (at_builtin; refine wp_gzI (n := n) rfl (.tmp 20) (.tmp 21) rfl (by rfl) (by rfl) (unhide HR0) ?_)
    go_ret
    exact ⟨_, rfl, unhide HO, fun k hk => by cases hk; exact Nat.le_refl _, unhide HB⟩
/-- slices.Concat of two rows of numbers. -/
theorem concatI2 (g g1 o1 n1 c1 g2 o2 n2 c2 : Nat) (l1 l2 : List Int) (w : World) (hg : w.heap[g]? = some (.cells #[.slice (some ⟨g1, o1, none⟩) n1 c1, .slice (some ⟨g2, o2, none⟩) n2 c2] 23 (0, 0)))
    (h1 : Ins w (some ⟨g1, o1, none⟩) n1 l1) (h2 : Ins w (some ⟨g2, o2, none⟩) n2 l2) (b1 : n1 ≤ 2147483648) (b2 : n2 ≤ 2147483648) :
    Calls Tryz.prog 104 #[.slice (some ⟨g, 0, none⟩) 2 2] w fun e w' => ∃ V, e = .returned V ∧ w'.ownsRow 0 3 1 V (n1 + n2) ((l1 ++ l2).map fun z => I z) ∧ (∀ k, V.ownBlock = some k → w.heap.size ≤ k) ∧ Below w.heap.size w w' := by
  have k0 : w.cell? ⟨g, 0, none⟩ = some (.slice (some ⟨g1, o1, none⟩) n1 c1) := by rw [cell_of_row w g 0 _ 23 (0, 0) hg]; rfl
  have k1 : w.cell? ⟨g, 1, none⟩ = some (.slice (some ⟨g2, o2, none⟩) n2 c2) := by rw [cell_of_row w g 1 _ 23 (0, 0) hg]; rfl
  have hgl := lt_of_row hg
  have HG := hide hg
  have S1 := hide h1
  have S2 := hide h2
  have H0 := hide (growI_nil (n1 + n2) w (by omega))
  clear h1 h2 hg
  go_enter Tryz.func104, Tryz.ntmps104
  go_wp2
  go_loopw [3, 11] (fun s i wr => ∃ k : Nat, k ≤ 2 ∧ i = .int .i64 k ∧ s = .int .i64 ((if k = 0 then 0 else if k = 1 then n1 else n1 + n2 : Nat) : Int) ∧ wr = w) (fun _ i _ => 2 - (Go.RowKit.intOf i).toNat)
  case atStart => exact ⟨0, by omega, rfl, rfl, rfl⟩
  case round =>
    obtain ⟨k, hk, rfl, rfl, rfl⟩ := hrel
    match k, hk with
    | 0, _ =>
      simp only [if_true]
      go_wp2
      go_round
      case measure => simp [Go.RowKit.intOf]
      case rel => exact ⟨1, by omega, by simp, by simp, by first | trivial | rfl⟩
    | 1, _ =>
      simp only [if_true, Nat.one_ne_zero, if_false]
      go_wp2
      go_round
      case measure => simp [Go.RowKit.intOf]
      case rel => exact ⟨2, by omega, by simp, by simp, by first | trivial | rfl⟩
    | 2, _ =>
      simp only [show (2 : Nat) = 0 ↔ False by decide, show (2 : Nat) = 1 ↔ False by decide, if_false]
      go_wp2_with fail
      refine (unhide H0).mono ?_
      rintro e w2 ⟨V, rfl, r2, o2', b2'⟩
      have HR := hide r2
      have HV := hide o2'
      have HB := hide b2'
      clear r2 o2' b2' H0
      go_wp2
      go_loopw [6, 27] (fun v i W => ∃ k : Nat, k ≤ 2 ∧ i = .int .i64 k ∧ W.ownsRow 0 3 1 v (if k = 0 then 0 else if k = 1 then n1 else n1 + n2) ((if k = 0 then [] else if k = 1 then l1 else l1 ++ l2 : List Int).map fun z => I z) ∧ (∀ j, v.ownBlock = some j → wr.heap.size ≤ j) ∧ Below wr.heap.size wr W) (fun _ i _ => 2 - (Go.RowKit.intOf i).toNat)
      case atStart => exact ⟨0, by omega, rfl, unhide HR, unhide HV, unhide HB⟩
      case round =>
        clear HR HV HB
        obtain ⟨k, hk, rfl, hr, hv, hb⟩ := hrel
        have HB := hide hb
        have HV := hide hv
        match k, hk with
        | 0, _ =>
          simp only [if_true] at hr
          obtain ⟨p, c, rfl⟩ := owns_form hr
          have HR := hide hr
          have k0' := (hb.cell hgl).trans k0
          have T1 := hide ((unhide S1).below hb)
          have hgl' := Nat.lt_of_lt_of_le hgl hb.size
          clear hr hv hb
          go_wp2_with (at_builtin; refine wp_appI rfl (.tmp 31) (.tmp 32) rfl (.slice p 0 c) 0 [] (by rfl) (unhide HR) g1 o1 n1 c1 l1 (unhide T1) (by rfl) (by omega) ?_; intro p3 c3 w3 r3 o3 n3; have HR3 := hide r3; have HO3 := hide o3; have HN3 := hide n3; clear r3 o3 n3)
          go_round
          case measure => simp [Go.RowKit.intOf]
          case rel =>
            refine ⟨1, by omega, by simp, by simpa using unhide HR3, fun j hj => ?_, (unhide HO3).below (unhide HB) (unhide HB).size (fun j hj => unhide HV j hj)⟩
            rcases unhide HN3 j (by rw [Nat.zero_add]; exact hj) with q | q
            · exact unhide HV j q
            · exact Nat.le_trans (unhide HB).size q
        | 1, _ =>
          simp only [if_true, Nat.one_ne_zero, if_false] at hr
          obtain ⟨p, c, rfl⟩ := owns_form hr
          have HR := hide hr
          have k1' := (hb.cell hgl).trans k1
          have T1 := hide ((unhide S2).below hb)
          have hgl' := Nat.lt_of_lt_of_le hgl hb.size
          clear hr hv hb
          go_wp2_with (at_builtin; refine wp_appI rfl (.tmp 31) (.tmp 32) rfl (.slice p n1 c) n1 l1 (by rfl) (unhide HR) g2 o2 n2 c2 l2 (unhide T1) (by rfl) (by omega) ?_; intro p3 c3 w3 r3 o3 n3; have HR3 := hide r3; have HO3 := hide o3; have HN3 := hide n3; clear r3 o3 n3)
          go_round
          case measure => simp [Go.RowKit.intOf]
          case rel =>
            refine ⟨2, by omega, by simp, unhide HR3, fun j hj => ?_, (unhide HO3).below (unhide HB) (unhide HB).size (fun j hj => unhide HV j hj)⟩
            rcases unhide HN3 j hj with q | q
            · exact unhide HV j q
            · exact Nat.le_trans (unhide HB).size q
        | 2, _ =>
          simp only [show (2 : Nat) = 0 ↔ False by decide, show (2 : Nat) = 1 ↔ False by decide, if_false] at hr
          have HR := hide hr
          clear hr hv hb
          go_wp2
          go_ret
          exact ⟨_, rfl, unhide HR, unhide HV, unhide HB⟩
/-- slices.Concat of three rows of texts. -/
theorem concat3 (g g1 o1 n1 c1 g2 o2 n2 c2 g3 o3 n3 c3 : Nat) (l1 l2 l3 : List Bs) (w : World) (hg : w.heap[g]? = some (.cells #[.slice (some ⟨g1, o1, none⟩) n1 c1, .slice (some ⟨g2, o2, none⟩) n2 c2, .slice (some ⟨g3, o3, none⟩) n3 c3] 22 (0, 0)))
    (h1 : Sts w (some ⟨g1, o1, none⟩) n1 l1) (h2 : Sts w (some ⟨g2, o2, none⟩) n2 l2) (h3 : Sts w (some ⟨g3, o3, none⟩) n3 l3) (b1 : n1 ≤ 1073741824) (b2 : n2 ≤ 1073741824) (b3 : n3 ≤ 1073741824) :
    Calls Tryz.prog 105 #[.slice (some ⟨g, 0, none⟩) 3 3] w fun e w' => ∃ V, e = .returned V ∧ w'.ownsRow 0 9 1 V (n1 + n2 + n3) ((l1 ++ l2 ++ l3).map S) ∧ (∀ k, V.ownBlock = some k → w.heap.size ≤ k) ∧ Below w.heap.size w w' := by
  have k0 : w.cell? ⟨g, 0, none⟩ = some (.slice (some ⟨g1, o1, none⟩) n1 c1) := by rw [cell_of_row w g 0 _ 22 (0, 0) hg]; rfl
  have k1 : w.cell? ⟨g, 1, none⟩ = some (.slice (some ⟨g2, o2, none⟩) n2 c2) := by rw [cell_of_row w g 1 _ 22 (0, 0) hg]; rfl
  have k2 : w.cell? ⟨g, 2, none⟩ = some (.slice (some ⟨g3, o3, none⟩) n3 c3) := by rw [cell_of_row w g 2 _ 22 (0, 0) hg]; rfl
  have hgl := lt_of_row hg
  have S1 := hide h1
  have S2 := hide h2
  have S3 := hide h3
  have H0 := hide (grow_nil (n1 + n2 + n3) w (by omega))
  clear h1 h2 h3 hg
  go_enter Tryz.func105, Tryz.ntmps105
  go_wp2
  go_loopw [3, 11] (fun s i wr => ∃ k : Nat, k ≤ 3 ∧ i = .int .i64 k ∧ s = .int .i64 ((if k = 0 then 0 else if k = 1 then n1 else if k = 2 then n1 + n2 else n1 + n2 + n3 : Nat) : Int) ∧ wr = w) (fun _ i _ => 3 - (Go.RowKit.intOf i).toNat)
  case atStart => exact ⟨0, by omega, rfl, rfl, rfl⟩
  case round =>
    obtain ⟨k, hk, rfl, rfl, rfl⟩ := hrel
    match k, hk with
    | 0, _ =>
      simp only [if_true]
      go_wp2
      go_round
      case measure => simp [Go.RowKit.intOf]
      case rel => exact ⟨1, by omega, by simp, by simp, by first | trivial | rfl⟩
    | 1, _ =>
      simp only [if_true, Nat.one_ne_zero, if_false]
      go_wp2
      go_round
      case measure => simp [Go.RowKit.intOf]
      case rel => exact ⟨2, by omega, by simp, by simp, by first | trivial | rfl⟩
    | 2, _ =>
      simp only [if_true, show (2 : Nat) = 0 ↔ False by decide, show (2 : Nat) = 1 ↔ False by decide, if_false]
      go_wp2
      go_round
      case measure => simp [Go.RowKit.intOf]
      case rel => exact ⟨3, by omega, by simp, by simp, by first | trivial | rfl⟩
    | 3, _ =>
      simp only [show (3 : Nat) = 0 ↔ False by decide, show (3 : Nat) = 1 ↔ False by decide, show (3 : Nat) = 2 ↔ False by decide, if_false]
      go_wp2_with fail
      refine (unhide H0).mono ?_
      rintro e w2 ⟨V, rfl, r2, o2', b2'⟩
      have HR := hide r2
      have HV := hide o2'
      have HB := hide b2'
      clear r2 o2' b2' H0
      go_wp2
      go_loopw [6, 27] (fun v i W => ∃ k : Nat, k ≤ 3 ∧ i = .int .i64 k ∧ W.ownsRow 0 9 1 v (if k = 0 then 0 else if k = 1 then n1 else if k = 2 then n1 + n2 else n1 + n2 + n3 : Nat) ((if k = 0 then [] else if k = 1 then l1 else if k = 2 then l1 ++ l2 else l1 ++ l2 ++ l3 : List Bs).map S) ∧ (∀ j, v.ownBlock = some j → wr.heap.size ≤ j) ∧ Below wr.heap.size wr W) (fun _ i _ => 3 - (Go.RowKit.intOf i).toNat)
      case atStart => exact ⟨0, by omega, rfl, unhide HR, unhide HV, unhide HB⟩
      case round =>
        clear HR HV HB
        obtain ⟨k, hk, rfl, hr, hv, hb⟩ := hrel
        have HB := hide hb
        have HV := hide hv
        match k, hk with
        | 0, _ =>
          simp only [if_true] at hr
          obtain ⟨p, c, rfl⟩ := owns_form hr
          have HR := hide hr
          have k0' := (hb.cell hgl).trans k0
          have T1 := hide ((unhide S1).below hb)
          have hgl' := Nat.lt_of_lt_of_le hgl hb.size
          clear hr hv hb
          go_wp2_with (at_builtin; refine wp_appS rfl (.tmp 31) (.tmp 32) rfl (.slice p 0 c) 0 [] (by rfl) (unhide HR) g1 o1 n1 c1 l1 (unhide T1) (by rfl) (by omega) ?_; intro p4 c4 w4 r4 o4 m4; have HR3 := hide r4; have HO3 := hide o4; have HN3 := hide m4; clear r4 o4 m4)
          go_round
          case measure => simp [Go.RowKit.intOf]
          case rel =>
            refine ⟨1, by omega, by simp, by simpa using unhide HR3, fun j hj => ?_, (unhide HO3).below (unhide HB) (unhide HB).size (fun j hj => unhide HV j hj)⟩
            rcases unhide HN3 j (by simpa using hj) with q | q
            · exact unhide HV j q
            · exact Nat.le_trans (unhide HB).size q
        | 1, _ =>
          simp only [if_true, Nat.one_ne_zero, if_false] at hr
          obtain ⟨p, c, rfl⟩ := owns_form hr
          have HR := hide hr
          have k1' := (hb.cell hgl).trans k1
          have T1 := hide ((unhide S2).below hb)
          have hgl' := Nat.lt_of_lt_of_le hgl hb.size
          clear hr hv hb
          go_wp2_with (at_builtin; refine wp_appS rfl (.tmp 31) (.tmp 32) rfl (.slice p n1 c) n1 l1 (by rfl) (unhide HR) g2 o2 n2 c2 l2 (unhide T1) (by rfl) (by omega) ?_; intro p4 c4 w4 r4 o4 m4; have HR3 := hide r4; have HO3 := hide o4; have HN3 := hide m4; clear r4 o4 m4)
          go_round
          case measure => simp [Go.RowKit.intOf]
          case rel =>
            refine ⟨2, by omega, by simp, by simpa using unhide HR3, fun j hj => ?_, (unhide HO3).below (unhide HB) (unhide HB).size (fun j hj => unhide HV j hj)⟩
            rcases unhide HN3 j (by simpa using hj) with q | q
            · exact unhide HV j q
            · exact Nat.le_trans (unhide HB).size q
        | 2, _ =>
          simp only [if_true, show (2 : Nat) = 0 ↔ False by decide, show (2 : Nat) = 1 ↔ False by decide, if_false] at hr
          obtain ⟨p, c, rfl⟩ := owns_form hr
          have HR := hide hr
          have k2' := (hb.cell hgl).trans k2
          have T1 := hide ((unhide S3).below hb)
          have hgl' := Nat.lt_of_lt_of_le hgl hb.size
          clear hr hv hb
          go_wp2_with (at_builtin; refine wp_appS rfl (.tmp 31) (.tmp 32) rfl (.slice p (n1 + n2) c) (n1 + n2) (l1 ++ l2) (by rfl) (unhide HR) g3 o3 n3 c3 l3 (unhide T1) (by rfl) (by omega) ?_; intro p4 c4 w4 r4 o4 m4; have HR3 := hide r4; have HO3 := hide o4; have HN3 := hide m4; clear r4 o4 m4)
          go_round
          case measure => simp [Go.RowKit.intOf]
          case rel =>
            refine ⟨3, by omega, by simp, by simpa using unhide HR3, fun j hj => ?_, (unhide HO3).below (unhide HB) (unhide HB).size (fun j hj => unhide HV j hj)⟩
            rcases unhide HN3 j (by simpa using hj) with q | q
            · exact unhide HV j q
            · exact Nat.le_trans (unhide HB).size q
        | 3, _ =>
          simp only [show (3 : Nat) = 0 ↔ False by decide, show (3 : Nat) = 1 ↔ False by decide, show (3 : Nat) = 2 ↔ False by decide, if_false] at hr
          have HR := hide hr
          clear hr hv hb
          go_wp2
          go_ret
          exact ⟨_, rfl, unhide HR, unhide HV, unhide HB⟩
end Go.Proofs.YtllialbdofklgaaGreatDoor
namespace Go.Proofs.YtllialbdofklgaaGreatDoor
open Go.RowKit
set_option maxHeartbeats 16000000
set_option maxRecDepth 8000
theorem part_leaf (g1 o1 g2 o2 m kc vc : Nat) (ia : Option Addr) (il ic f t : Nat) (w : World) (h1 : f < t) (h2 : t ≤ m) (h3 : m ≤ kc) (h4 : m ≤ vc) :
    Calls Tryz.prog 99 #[.agg #[.bool true, .slice (some ⟨g1, o1, none⟩) m kc, .slice (some ⟨g2, o2, none⟩) m vc, .slice ia il ic], I f, I t] w fun e w' => e = .returned (.agg #[.bool true, .slice (some ⟨g1, o1 + f, none⟩) (t - f) (t - f), .slice (some ⟨g2, o2 + f, none⟩) (t - f) (t - f), .slice none 0 0]) ∧ Below w.heap.size w w' := by
  have hA := (Below.refl w.heap.size w).alloc (Nat.le_refl _) (.cells #[.bool true, .slice (some ⟨g1, o1, none⟩) m kc, .slice (some ⟨g2, o2, none⟩) m vc, .slice ia il ic] 25)
  have hg := heap_alloc_new w (.cells #[.bool true, .slice (some ⟨g1, o1, none⟩) m kc, .slice (some ⟨g2, o2, none⟩) m vc, .slice ia il ic] 25)
  have hs1 := size_alloc w (.cells #[.bool true, .slice (some ⟨g1, o1, none⟩) m kc, .slice (some ⟨g2, o2, none⟩) m vc, .slice ia il ic] 25)
  generalize hW1 : w.alloc (.cells #[.bool true, .slice (some ⟨g1, o1, none⟩) m kc, .slice (some ⟨g2, o2, none⟩) m vc, .slice ia il ic] 25) = W1 at hA hg hs1
  have hA2 := hA.alloc hA.size (.cells #[.bool false, .slice none 0 0, .slice none 0 0, .slice none 0 0] 25)
  have hp := heap_alloc_new W1 (.cells #[.bool false, .slice none 0 0, .slice none 0 0, .slice none 0 0] 25)
  have hg2 := (alloc_old W1 (.cells #[.bool false, .slice none 0 0, .slice none 0 0, .slice none 0 0] 25) (lt_of_row hg)).trans hg
  have hs2 := size_alloc W1 (.cells #[.bool false, .slice none 0 0, .slice none 0 0, .slice none 0 0] 25)
  generalize hW2 : W1.alloc (.cells #[.bool false, .slice none 0 0, .slice none 0 0, .slice none 0 0] 25) = W2 at hA2 hp hg2 hs2
  have HA2 := hide hA2
  have hsw : w.heap.size ≤ W1.heap.size := by omega
  have HP := hide hp
  have hz2 := lt_of_row hg2
  have hz3 := lt_of_row hp
  obtain ⟨c0, c1, c2, c3⟩ := box4 hg2 (Below.refl _ _) hz2
  have y0 := frz hp 0
  have y1 := frz hp 1
  have y2 := frz hp 2
  have y3 := frz hp 3
  obtain ⟨d0, d1, d2, d3⟩ := box4 hp (Below.refl _ _) hz3
  clear hA hg hs1 hs2 hA2 hp hg2
  have q1 : t ≤ kc := by omega
  have q2 : f ≤ t := by omega
  have q3 : ¬ t = f := by omega
  have q4 : t ≤ vc := by omega
  go_enter Tryz.func99, Tryz.ntmps99
  go_wp2
  go_region_law (fail)
  all_goals (
    clear c0 c1 c2 c3 d0 d1 d2 d3 y0 y1 y2 y3
    go_wp2
    refine outN1 (p := 6) rfl (by rfl) (by rfl) (set4 (unhide HP) rfl _ _ _ _) ⟨rfl, ?_⟩
    exact ((set4_only W2 W1.heap.size _ _ _ _).below (unhide HA2) (unhide HA2).size (fun k e => by rw [e]; omega)).drew)
theorem part_inner (g1 o1 g3 o3 m kc ic : Nat) (va : Option Addr) (vl vc f t : Nat) (w : World) (h1 : f < t) (h2 : t ≤ m) (h3 : m ≤ kc) (h4 : m + 1 ≤ ic) (h6 : ic ≤ 9223372036854775807) :
    Calls Tryz.prog 99 #[.agg #[.bool false, .slice (some ⟨g1, o1, none⟩) m kc, .slice va vl vc, .slice (some ⟨g3, o3, none⟩) (m + 1) ic], I f, I t] w fun e w' => e = .returned (.agg #[.bool false, .slice (some ⟨g1, o1 + f, none⟩) (t - f) (t - f), .slice none 0 0, .slice (some ⟨g3, o3 + f, none⟩) (t + 1 - f) (t + 1 - f)]) ∧ Below w.heap.size w w' := by
  have hA := (Below.refl w.heap.size w).alloc (Nat.le_refl _) (.cells #[.bool false, .slice (some ⟨g1, o1, none⟩) m kc, .slice va vl vc, .slice (some ⟨g3, o3, none⟩) (m + 1) ic] 25)
  have hg := heap_alloc_new w (.cells #[.bool false, .slice (some ⟨g1, o1, none⟩) m kc, .slice va vl vc, .slice (some ⟨g3, o3, none⟩) (m + 1) ic] 25)
  have hs1 := size_alloc w (.cells #[.bool false, .slice (some ⟨g1, o1, none⟩) m kc, .slice va vl vc, .slice (some ⟨g3, o3, none⟩) (m + 1) ic] 25)
  generalize hW1 : w.alloc (.cells #[.bool false, .slice (some ⟨g1, o1, none⟩) m kc, .slice va vl vc, .slice (some ⟨g3, o3, none⟩) (m + 1) ic] 25) = W1 at hA hg hs1
  have hA2 := hA.alloc hA.size (.cells #[.bool false, .slice none 0 0, .slice none 0 0, .slice none 0 0] 25)
  have hp := heap_alloc_new W1 (.cells #[.bool false, .slice none 0 0, .slice none 0 0, .slice none 0 0] 25)
  have hg2 := (alloc_old W1 (.cells #[.bool false, .slice none 0 0, .slice none 0 0, .slice none 0 0] 25) (lt_of_row hg)).trans hg
  have hs2 := size_alloc W1 (.cells #[.bool false, .slice none 0 0, .slice none 0 0, .slice none 0 0] 25)
  generalize hW2 : W1.alloc (.cells #[.bool false, .slice none 0 0, .slice none 0 0, .slice none 0 0] 25) = W2 at hA2 hp hg2 hs2
  have HA2 := hide hA2
  have hsw : w.heap.size ≤ W1.heap.size := by omega
  have HP := hide hp
  have hz2 := lt_of_row hg2
  have hz3 := lt_of_row hp
  obtain ⟨c0, c1, c2, c3⟩ := box4 hg2 (Below.refl _ _) hz2
  have y0 := frz hp 0
  have y1 := frz hp 1
  have y2 := frz hp 2
  have y3 := frz hp 3
  obtain ⟨d0, d1, d2, d3⟩ := box4 hp (Below.refl _ _) hz3
  clear hA hg hs1 hs2 hA2 hp hg2
  have q1 : t ≤ kc := by omega
  have q2 : f ≤ t := by omega
  have q3 : ¬ t = f := by omega
  have hwr : IntKind.i64.wrap ((t : Int) + 1) = ((t + 1 : Nat) : Int) := by rw [IntKind.wrap_i64]; omega
  have q4 : t + 1 ≤ ic := by omega
  have q5 : f ≤ t + 1 := by omega
  have q6 : ¬ t + 1 = f := by omega
  generalize t + 1 = T at *
  go_enter Tryz.func99, Tryz.ntmps99
  go_wp2
  go_region_law (fail)
  all_goals (
    clear c0 c1 c2 c3 d0 d1 d2 d3 y0 y1 y2 y3
    go_wp2
    refine outN1 (p := 6) rfl (by rfl) (by rfl) (set4 (unhide HP) rfl _ _ _ _) ⟨rfl, ?_⟩
    exact ((set4_only W2 W1.heap.size _ _ _ _).below (unhide HA2) (unhide HA2).size (fun k e => by rw [e]; omega)).drew)
end Go.Proofs.YtllialbdofklgaaGreatDoor
