import Derived.Test.YtllialbdofklgaaGreatDoorZnds
import Derived.Test.YtllialbdofklgaaGreatDoorNfi
import Derived.Laws.AppendOwnNone
namespace Go.Proofs.YtllialbdofklgaaGreatDoor
open Go.RowKit
set_option maxHeartbeats 8000000
set_option maxRecDepth 8000
theorem refKeys_any (a : Option Addr) (n cap : Nat) (l : List Bs) (w : World) (hp : Sts w a n l) (hn : n ≤ 4294967296) (ht : tot l ≤ 4294967296) :
    Calls Tryz.prog 80 #[.slice a n cap] w fun e w' => e = .returned (.bool (kok l)) ∧ ∃ q, w' = w.drewN q := by
  have hN := hp.1
  subst hN
  have HP := hide hp
  have HR := hide (refRises_any a l.length cap l w hp hn)
  have HT := hide (fun k => Nat.le_trans (tot_at l k) ht)
  clear hp ht
  go_enter Tryz.func80, Tryz.ntmps80
  go_wp2
  go_loopw [3] (fun i wr => ∃ k : Nat, k ≤ l.length ∧ i = .int .i64 k ∧ anyB noKey (l.take k) = false ∧ wr = w) (fun i _ => l.length - (Go.RowKit.intOf i).toNat)
  case atStart => exact ⟨0, by omega, rfl, rfl, rfl⟩
  case round =>
    obtain ⟨k, hk, rfl, ha, rfl⟩ := hrel
    by_cases hlt : k < l.length
    · have hlt' : (k : Int) < (l.length : Int) := by omega
      obtain ⟨p, o, rfl, hpl, hc0⟩ := (unhide HP).at hlt
      have HN := hide (anyb_next noKey l k hlt)
      have HW := hide (anyb_hit noKey l k hlt)
      have hxl := unhide HT k
      generalize l.getD k [] = x at *
      have HA := hide ha
      clear ha HT
      cases hx : noKey x
      · have HA2 := hide (show anyB noKey (l.take (k + 1)) = false by rw [unhide HN, unhide HA, hx]; rfl)
        unfold noKey at hx
        simp only [Bool.or_eq_false_iff, decide_eq_false_iff_not] at hx
        have q1 : decide ((x.length : Int) < 1) = false := by rw [decide_eq_false_iff_not]; omega
        have q2 : decide ((36 : Int) < (x.length : Int)) = false := by rw [decide_eq_false_iff_not]; omega
        clear HN HW HA
        go_wp2
        go_round
        case measure => simp [Go.RowKit.intOf]; omega
        case rel => exact ⟨k + 1, by omega, by simp, unhide HA2, by first | trivial | rfl⟩
      · have HX := hide (show kok l = false by rw [kok_eq, unhide HW hx]; rfl)
        unfold noKey at hx
        simp only [Bool.or_eq_true, decide_eq_true_eq] at hx
        clear HN HW HA
        by_cases q0 : x.length < 1
        · have q1 : decide ((x.length : Int) < 1) = true := by rw [decide_eq_true_eq]; omega
          have q1' : (x.length : Int) < 1 := by omega
          clear hx
          go_wp2
          go_ret
          exact ⟨ret_bool (unhide HX).symm, 0, rfl⟩
        · have q1 : decide ((x.length : Int) < 1) = false := by rw [decide_eq_false_iff_not]; omega
          have q2 : decide ((36 : Int) < (x.length : Int)) = true := by rw [decide_eq_true_eq]; omega
          clear hx
          go_wp2
          go_ret
          exact ⟨ret_bool (unhide HX).symm, 0, rfl⟩
    · have hlt' : ¬ (k : Int) < (l.length : Int) := by omega
      have HA := hide (show kok l = up l by rw [kok_eq, show anyB noKey l = false by rw [List.take_of_length_le (by omega)] at ha; exact ha]; simp)
      clear ha HT
      go_wp2_with fail
      refine (unhide HR).mono ?_
      rintro e w1 ⟨rfl, q, rfl⟩
      go_wp2
      go_ret
      exact ⟨ret_bool (unhide HA).symm, q, rfl⟩
theorem app_anyS {w : World} {tt : Nat} (v : Value) (n : Nat) (l : List Bs) (hown : w.ownsRow 0 9 1 v n (l.map S)) (a : Option Addr) (m c : Nat) (u : List Bs) (hu : Sts w a m u) (hc : a = none → c = 0) (hl : n + m ≤ 8589934592) :
    ∃ p cap w', (Builtin.append_ #[22, 22] tt #[v, .slice a m c]).run Tryz.prog w = .ok (.slice p (n + m) cap) w' ∧ w'.ownsRow 0 9 1 (.slice p (n + m) cap) (n + m) ((l ++ u).map S) ∧ Only (fun k => v.ownBlock = some k) w w' ∧ (∀ k, (Value.slice p (n + m) cap).ownBlock = some k → v.ownBlock = some k ∨ w.heap.size ≤ k) := by
  have hN := hu.1
  by_cases hm : 0 < m
  · obtain ⟨g, o, rfl, -⟩ := hu.2 hm
    exact app_rowS v n l hown g o m c u hu hl
  · obtain rfl : m = 0 := by omega
    have : u = [] := List.eq_nil_of_length_eq_zero (by omega)
    subst this
    obtain ⟨i0, hi, hz0, hz1, hz2⟩ := info_parts info9
    cases a with
    | none =>
      obtain rfl := hc rfl
      have hr := run_append_owned_none (P := Tryz.prog) (w := w) 0 22 tt 9 i0 1 Tryz.underlying22 hi v n _ hown
      obtain ⟨p, cap, rfl⟩ := owns_form hown
      exact ⟨p, cap, w, hr, by simpa using hown, Only.refl _ _, fun k hk => .inl hk⟩
    | some ad =>
      obtain ⟨v', w', hr, h2, h3, _, h5⟩ := run_append_own_at (P := Tryz.prog) w 0 22 tt 9 i0 (.string ⟨#[]⟩) 1 16 Tryz.underlying22 hi hz0 hz1 hz2 rfl (by decide) v n (l.map S) hown ad 0 c [] (by simp) (fun j z hj => by simp at hj) (by simp) (by unfold maxLen; omega) (by omega) (Nat.zero_le _)
      rw [List.append_nil] at h2
      obtain ⟨p, cap, rfl⟩ := owns_form h2
      refine ⟨p, cap, w', hr, by rw [List.append_nil]; exact h2, Only.of_grown h3, ?_⟩
      intro k hk
      rcases h5 with h5 | h5
      · left; rw [← h5]; exact hk
      · right; rw [hk] at h5; have := Option.some.inj h5; omega
theorem wp_anyS {ops : Array Oper} {rest : List Oper} {o : Oper} {act : Act} {Q : Exit → Act → World → Prop} {w : World} (hgd : o.guard = none) (s x : Operand) (ho : o.op = .call { callee := .builtin .append, args := #[s, x], argTypes := #[22, 22] })
    (v : Value) (n : Nat) (l : List Bs) (hs : act.eval s = v) (hown : w.ownsRow 0 9 1 v n (l.map S)) (a : Option Addr) (m c : Nat) (u : List Bs) (hu : Sts w a m u) (hc : a = none → c = 0) (hx : act.eval x = .slice a m c) (hl : n + m ≤ 8589934592)
    (h : ∀ p cap w', w'.ownsRow 0 9 1 (.slice p (n + m) cap) (n + m) ((l ++ u).map S) → Only (fun k => v.ownBlock = some k) w w' → (∀ k, (Value.slice p (n + m) cap).ownBlock = some k → v.ownBlock = some k ∨ w.heap.size ≤ k) → wpList Tryz.prog ops Q rest (act.put o.dst (.slice p (n + m) cap)) w') :
    wpList Tryz.prog ops Q (o :: rest) act w := by
  obtain ⟨p, cap, w', hr, h2, h3, h4⟩ := app_anyS (tt := o.type) v n l hown a m c u hu hc hl
  refine wpList_plain hgd fun K hK => ?_
  unfold Oper.wp execOp
  simp only [ho, resolve, invoke, builtin, Sem.run_bind, Sem.run_pure, Result.andThen_ok, List.map_toArray, List.map_cons, List.map_nil, hs, hx, hr]
  exact hK _ _ (h p cap w' h2 h3 h4)
theorem app_anyI {w : World} {tt : Nat} (v : Value) (n : Nat) (l : List Int) (hown : w.ownsRow 0 3 1 v n (l.map fun z => I z)) (a : Option Addr) (m c : Nat) (u : List Int) (hu : Ins w a m u) (hc : a = none → c = 0) (hl : n + m ≤ 8589934592) :
    ∃ p cap w', (Builtin.append_ #[23, 23] tt #[v, .slice a m c]).run Tryz.prog w = .ok (.slice p (n + m) cap) w' ∧ w'.ownsRow 0 3 1 (.slice p (n + m) cap) (n + m) ((l ++ u).map fun z => I z) ∧ Only (fun k => v.ownBlock = some k) w w' ∧ (∀ k, (Value.slice p (n + m) cap).ownBlock = some k → v.ownBlock = some k ∨ w.heap.size ≤ k) := by
  have hN := hu.1
  by_cases hm : 0 < m
  · obtain ⟨g, o, rfl, -⟩ := hu.2 hm
    exact app_rowI v n l hown g o m c u hu hl
  · obtain rfl : m = 0 := by omega
    have : u = [] := List.eq_nil_of_length_eq_zero (by omega)
    subst this
    obtain ⟨i0, hi, hz0, hz1, hz2⟩ := info_parts info3
    cases a with
    | none =>
      obtain rfl := hc rfl
      have hr := run_append_owned_none (P := Tryz.prog) (w := w) 0 23 tt 3 i0 1 Tryz.underlying23 hi v n _ hown
      obtain ⟨p, cap, rfl⟩ := owns_form hown
      exact ⟨p, cap, w, hr, by simpa using hown, Only.refl _ _, fun k hk => .inl hk⟩
    | some ad =>
      obtain ⟨v', w', hr, h2, h3, _, h5⟩ := run_append_own_at (P := Tryz.prog) w 0 23 tt 3 i0 (.int .i64 0) 1 8 Tryz.underlying23 hi hz0 hz1 hz2 rfl (by decide) v n (l.map fun z => I z) hown ad 0 c [] (by simp) (fun j z hj => by simp at hj) (by simp) (by unfold maxLen; omega) (by omega) (Nat.zero_le _)
      rw [List.append_nil] at h2
      obtain ⟨p, cap, rfl⟩ := owns_form h2
      refine ⟨p, cap, w', hr, by rw [List.append_nil]; exact h2, Only.of_grown h3, ?_⟩
      intro k hk
      rcases h5 with h5 | h5
      · left; rw [← h5]; exact hk
      · right; rw [hk] at h5; have := Option.some.inj h5; omega
theorem wp_anyI {ops : Array Oper} {rest : List Oper} {o : Oper} {act : Act} {Q : Exit → Act → World → Prop} {w : World} (hgd : o.guard = none) (s x : Operand) (ho : o.op = .call { callee := .builtin .append, args := #[s, x], argTypes := #[23, 23] })
    (v : Value) (n : Nat) (l : List Int) (hs : act.eval s = v) (hown : w.ownsRow 0 3 1 v n (l.map fun z => I z)) (a : Option Addr) (m c : Nat) (u : List Int) (hu : Ins w a m u) (hc : a = none → c = 0) (hx : act.eval x = .slice a m c) (hl : n + m ≤ 8589934592)
    (h : ∀ p cap w', w'.ownsRow 0 3 1 (.slice p (n + m) cap) (n + m) ((l ++ u).map fun z => I z) → Only (fun k => v.ownBlock = some k) w w' → (∀ k, (Value.slice p (n + m) cap).ownBlock = some k → v.ownBlock = some k ∨ w.heap.size ≤ k) → wpList Tryz.prog ops Q rest (act.put o.dst (.slice p (n + m) cap)) w') :
    wpList Tryz.prog ops Q (o :: rest) act w := by
  obtain ⟨p, cap, w', hr, h2, h3, h4⟩ := app_anyI (tt := o.type) v n l hown a m c u hu hc hl
  refine wpList_plain hgd fun K hK => ?_
  unfold Oper.wp execOp
  simp only [ho, resolve, invoke, builtin, Sem.run_bind, Sem.run_pure, Result.andThen_ok, List.map_toArray, List.map_cons, List.map_nil, hs, hx, hr]
  exact hK _ _ (h p cap w' h2 h3 h4)
end Go.Proofs.YtllialbdofklgaaGreatDoor
namespace Go.Proofs.YtllialbdofklgaaGreatDoor
open Go.RowKit
set_option maxHeartbeats 2000000
set_option maxRecDepth 8000
/-- Whose a block is. -/
abbrev Tg := Nat × Nat
def ext (tag : Nat → Tg) (n : Nat) (t : Tg) : Nat → Tg := fun k => if k < n then tag k else t
theorem ext_old {tag : Nat → Tg} {n : Nat} {t : Tg} {k : Nat} (h : k < n) : ext tag n t k = tag k := if_pos h
theorem ext_new {tag : Nat → Tg} {n : Nat} {t : Tg} {k : Nat} (h : n ≤ k) : ext tag n t k = t := if_neg (by omega)
/-- The lists that are free: the row of them, and each in a block of its own. -/
structure LB (κ e sz T : Nat) (tag : Nat → Tg) (N : Nat) (vs : Nat → Value) (ns : Nat → Nat) (C : Nat → List Value) (vf : Value) (lo : Nat) (w : World) : Prop where
  rf : w.ownsRow 0 T 1 vf N ((List.range N).map vs)
  tf : ∀ k, vf.ownBlock = some k → tag k = (0, 1 + 3 * κ)
  fl : ∀ i, lo ≤ i → i < N → w.ownsRow 0 e sz (vs i) (ns i) (C i)
  ft : ∀ i, lo ≤ i → i < N → ∀ k, (vs i).ownBlock = some k → tag k = (3 + κ, i)
  sm : ∀ i, i < N → ns i ≤ 4294967296
section
variable {κ e sz T : Nat} {tag tag' : Nat → Tg} {N : Nat} {vs : Nat → Value} {ns : Nat → Nat} {C : Nat → List Value} {vf vd : Value} {lo : Nat} {w w' : World} {Q : Nat → Prop} {mk : Nat → List Value} {P : Tg → Prop} {Dn : List Value} {x : Value} {len : Nat}
theorem LB.only (h : LB κ e sz T tag N vs ns C vf lo w) (ho : Only Q w w') (hp : ∀ k, Q k → k < w.heap.size → tag k ≠ (0, 1 + 3 * κ) ∧ ∀ i, lo ≤ i → tag k ≠ (3 + κ, i)) : LB κ e sz T tag N vs ns C vf lo w' :=
  ⟨owns_only h.rf ho (fun k hk q => (hp k q (owns_blk h.rf k hk)).1 (h.tf k hk)), h.tf, fun i h1 h2 => owns_only (h.fl i h1 h2) ho (fun k hk q => (hp k q (owns_blk (h.fl i h1 h2) k hk)).2 i h1 (h.ft i h1 h2 k hk)), h.ft, h.sm⟩
theorem LB.below (h : LB κ e sz T tag N vs ns C vf lo w) (hb : Below w.heap.size w w') : LB κ e sz T tag N vs ns C vf lo w' :=
  h.only (Q := fun _ => False) (Only.of_below hb) (fun _ q => q.elim)
theorem LB.retag (h : LB κ e sz T tag N vs ns C vf lo w) (ha : ∀ k, k < w.heap.size → tag' k = tag k) : LB κ e sz T tag' N vs ns C vf lo w :=
  ⟨h.rf, fun k hk => (ha k (owns_blk h.rf k hk)).trans (h.tf k hk), h.fl, fun i h1 h2 k hk => (ha k (owns_blk (h.fl i h1 h2) k hk)).trans (h.ft i h1 h2 k hk), h.sm⟩
/-- One list has other cells. -/
theorem LB.set (h : LB κ e sz T tag N vs ns C vf lo w) {i : Nat} {c' : List Value} (hr : w'.ownsRow 0 e sz (vs i) (ns i) c') (ho : Only Q w w') (hq : ∀ k, Q k → k < w.heap.size → tag k = (3 + κ, i)) : LB κ e sz T tag N vs ns (fun j => if j = i then c' else C j) vf lo w' := by
  refine ⟨owns_only h.rf ho (fun k hk q => ?_), h.tf, fun j h1 h2 => ?_, h.ft, h.sm⟩
  · have a := hq k q (owns_blk h.rf k hk)
    rw [h.tf k hk] at a
    have := congrArg Prod.fst a
    simp at this
    omega
  · by_cases e : j = i
    · subst e
      rw [if_pos rfl]
      exact hr
    · rw [if_neg e]
      refine owns_only (h.fl j h1 h2) ho (fun k hk q => ?_)
      have a := hq k q (owns_blk (h.fl j h1 h2) k hk)
      rw [h.ft j h1 h2 k hk] at a
      exact e (congrArg Prod.snd a)
theorem LB.take (h : LB κ e sz T tag N vs ns C vf lo w) : LB κ e sz T tag N vs ns C vf (lo + 1) w :=
  ⟨h.rf, h.tf, fun i h1 h2 => h.fl i (by omega) h2, fun i h1 h2 => h.ft i (by omega) h2, h.sm⟩
/-- The row at a place. -/
theorem LB.at (h : LB κ e sz T tag N vs ns C vf lo w) {i : Nat} (hi : i < N) : ∃ g c, vf = .slice (some ⟨g, 0, none⟩) N c ∧ w.cell? ⟨g, i, none⟩ = some (vs i) ∧ tag g = (0, 1 + 3 * κ) := by
  obtain ⟨g, c, cur, e1, _⟩ := owns_at h.rf (by omega)
  have q := h.rf
  rw [e1] at q
  exact ⟨g, c, e1, owns_cell q i _ (by simp [hi]), h.tf g (by rw [e1]; rfl)⟩
/-- A list that reads as marks. -/
def Vi (e sz : Nat) (tag : Nat → Tg) (P : Tg → Prop) (x : Value) (len : Nat) (w : World) (v : Value) (m : List Value) : Prop :=
  ∃ p n c, v = .slice p n c ∧ n ≤ 5000000000 ∧ (0 < n → ∃ g cur, p = some ⟨g, 0, none⟩ ∧ P (tag g) ∧ w.heap[g]? = some (.cells cur e (0, 0)) ∧ (x.ownBlock = some g → n ≤ len) ∧ ∀ j, j < n → ∀ t u, t < sz → m[t]? = some u → w.cell? ⟨g, j * sz + t, none⟩ = some u)
/-- The lists that are done: marked, some of them grown. -/
structure LD (κ e sz T : Nat) (mk : Nat → List Value) (tag : Nat → Tg) (P : Tg → Prop) (vd : Value) (Dn : List Value) (x : Value) (len : Nat) (w : World) : Prop where
  rd : w.ownsRow 0 T 1 vd Dn.length Dn
  td : ∀ k, vd.ownBlock = some k → tag k = (0, 3 + 3 * κ)
  dn : ∀ j v, Dn[j]? = some v → Vi e sz tag P x len w v (mk (j / 20))
theorem Vi.same {v : Value} {m : List Value} (h : Vi e sz tag P x len w v m) (hb : ∀ g, g < w.heap.size → P (tag g) → w'.heap[g]? = w.heap[g]?) : Vi e sz tag P x len w' v m := by
  obtain ⟨p, n, c, e1, e2, e3⟩ := h
  refine ⟨p, n, c, e1, e2, fun hn => ?_⟩
  obtain ⟨g, cur, f1, f2, f3, f4, f5⟩ := e3 hn
  have q := hb g (lt_of_row f3) f2
  exact ⟨g, cur, f1, f2, q.trans f3, f4, fun j hj t u ht hu => (World.cell?_of_block q).trans (f5 j hj t u ht hu)⟩
theorem Vi.retag {v : Value} {m : List Value} {P' : Tg → Prop} (h : Vi e sz tag P x len w v m) (ha : ∀ k, k < w.heap.size → P (tag k) → P' (tag' k)) : Vi e sz tag' P' x len w v m := by
  obtain ⟨p, n, c, e1, e2, e3⟩ := h
  refine ⟨p, n, c, e1, e2, fun hn => ?_⟩
  obtain ⟨g, cur, f1, f2, f3, f4, f5⟩ := e3 hn
  exact ⟨g, cur, f1, ha g (lt_of_row f3) f2, f3, f4, f5⟩
theorem LD.only (h : LD κ e sz T mk tag P vd Dn x len w) (ho : Only Q w w') (hq : ∀ k, Q k → k < w.heap.size → tag k ≠ (0, 3 + 3 * κ) ∧ ¬ P (tag k)) : LD κ e sz T mk tag P vd Dn x len w' :=
  ⟨owns_only h.rd ho (fun k hk q => (hq k q (owns_blk h.rd k hk)).1 (h.td k hk)), h.td, fun j v hv => (h.dn j v hv).same (fun g hg hp => ho.block g hg (fun q => (hq g q hg).2 hp))⟩
theorem LD.below (h : LD κ e sz T mk tag P vd Dn x len w) (hb : Below w.heap.size w w') : LD κ e sz T mk tag P vd Dn x len w' :=
  h.only (Q := fun _ => False) (Only.of_below hb) (fun _ q => q.elim)
theorem LD.retag {P' : Tg → Prop} (h : LD κ e sz T mk tag P vd Dn x len w) (ha : ∀ k, k < w.heap.size → tag k = (0, 3 + 3 * κ) → tag' k = (0, 3 + 3 * κ)) (hb : ∀ k, k < w.heap.size → P (tag k) → P' (tag' k)) : LD κ e sz T mk tag' P' vd Dn x len w :=
  ⟨h.rd, fun k hk => ha k (owns_blk h.rd k hk) (h.td k hk), fun j v hv => (h.dn j v hv).retag hb⟩
theorem LD.at (h : LD κ e sz T mk tag P vd Dn x len w) {j : Nat} {v : Value} (hj : Dn[j]? = some v) : ∃ g c, vd = .slice (some ⟨g, 0, none⟩) Dn.length c ∧ w.cell? ⟨g, j, none⟩ = some v := by
  have hl : j < Dn.length := (List.getElem?_eq_some_iff.1 hj).1
  obtain ⟨g, c, cur, e1, _⟩ := owns_at h.rd (by omega)
  have q := h.rd
  rw [e1] at q
  exact ⟨g, c, e1, owns_cell q j _ hj⟩
/-- One view more. -/
theorem LD.push {vd' v : Value} (h : LD κ e sz T mk tag P vd Dn x len w) (hr : w'.ownsRow 0 T 1 vd' (Dn.length + 1) (Dn ++ [v])) (ho : Only (fun k => vd.ownBlock = some k) w w') (hn : ∀ k, vd'.ownBlock = some k → vd.ownBlock = some k ∨ w.heap.size ≤ k)
    (hv : Vi e sz tag P x len w v (mk (Dn.length / 20))) (hP : ∀ b, ¬ P (0, b)) : LD κ e sz T mk (ext tag w.heap.size (0, 3 + 3 * κ)) P vd' (Dn ++ [v]) x len w' := by
  have key : ∀ {u : Value} {m : List Value}, Vi e sz tag P x len w u m → Vi e sz (ext tag w.heap.size (0, 3 + 3 * κ)) P x len w' u m := by
    intro u m hu
    have h1 : Vi e sz (ext tag w.heap.size (0, 3 + 3 * κ)) P x len w u m := hu.retag (fun k hk hp => by rw [ext_old hk]; exact hp)
    refine h1.same (fun g hg hp => ho.block g hg (fun q => ?_))
    rw [ext_old hg, h.td g q] at hp
    exact hP _ hp
  refine ⟨by rw [List.length_append]; exact hr, fun k hk => ?_, fun j u hj => ?_⟩
  · rcases hn k hk with q | q
    · rw [ext_old (owns_blk h.rd k q)]; exact h.td k q
    · exact ext_new q
  · by_cases hl : j < Dn.length
    · rw [List.getElem?_append_left hl] at hj
      exact key (h.dn j u hj)
    · rw [List.getElem?_append_right (by omega)] at hj
      have hj0 : j - Dn.length = 0 := by
        have := (List.getElem?_eq_some_iff.1 hj).1
        simp at this
        omega
      rw [hj0] at hj
      simp at hj
      subst hj
      rw [show j = Dn.length by omega]
      exact key hv
/-- What an append of one thing leaves as it was: every other block, and of the slice's own block what stands below its length. -/
structure Gr (e sz : Nat) (v : Value) (n : Nat) (w w' : World) : Prop where
  os : w'.os = w.os
  tape : w'.tape = w.tape
  output : w'.output = w.output
  size : w.heap.size ≤ w'.heap.size
  block : ∀ k, k < w.heap.size → v.ownBlock ≠ some k → w'.heap[k]? = w.heap[k]?
  cell : ∀ g j, v.ownBlock = some g → j < n * sz → w'.cell? ⟨g, j, none⟩ = w.cell? ⟨g, j, none⟩
  kind : ∀ g cur, v.ownBlock = some g → w.heap[g]? = some (.cells cur e (0, 0)) → ∃ cur', w'.heap[g]? = some (.cells cur' e (0, 0))
theorem Gr.only {v : Value} {n : Nat} (h : Gr e sz v n w w') : Only (fun k => v.ownBlock = some k) w w' := ⟨h.os, h.tape, h.output, h.size, h.block⟩
theorem LD.grow {x' : Value} {t : Tg} (h : LD κ e sz T mk tag P vd Dn x len w) (hg : Gr e sz x len w w') (hx : (∃ g, x.ownBlock = some g ∧ x'.ownBlock = some g) ∨ x'.ownBlock = some w.heap.size) (hd : ∀ k, x.ownBlock = some k → tag k ≠ (0, 3 + 3 * κ)) :
    LD κ e sz T mk (ext tag w.heap.size t) P vd Dn x' (len + 1) w' := by
  refine ⟨owns_only h.rd hg.only (fun k hk q => hd k q (h.td k hk)), fun k hk => ?_, fun j v hj => ?_⟩
  · rw [ext_old (owns_blk h.rd k hk)]; exact h.td k hk
  · obtain ⟨p, n, c, e1, e2, e3⟩ := h.dn j v hj
    refine ⟨p, n, c, e1, e2, fun hn => ?_⟩
    obtain ⟨g, cur, f1, f2, f3, f4, f5⟩ := e3 hn
    have hlt := lt_of_row f3
    by_cases q : x.ownBlock = some g
    · obtain ⟨cur', k1⟩ := hg.kind g cur q f3
      have hle := f4 q
      refine ⟨g, cur', f1, by rw [ext_old hlt]; exact f2, k1, fun _ => by omega, fun j hj t u ht hu => ?_⟩
      rw [hg.cell g _ q ?_]
      · exact f5 j hj t u ht hu
      · have h1 : (j + 1) * sz ≤ len * sz := Nat.mul_le_mul_right _ (by omega)
        rw [Nat.add_mul, Nat.one_mul] at h1
        omega
    · have k1 := hg.block g hlt q
      refine ⟨g, cur, f1, by rw [ext_old hlt]; exact f2, k1.trans f3, fun q' => ?_, fun j hj t u ht hu => (World.cell?_of_block k1).trans (f5 j hj t u ht hu)⟩
      exfalso
      rcases hx with ⟨g', a1, a2⟩ | a
      · rw [q'] at a2; cases a2; exact q a1
      · rw [q'] at a; cases a; exact Nat.lt_irrefl _ hlt
/-- A list of its own, all marks, as a view. -/
theorem Vi.of {m : List Value} (hr : w.ownsRow 0 e sz x len ((List.replicate len m).flatten)) (hm : m.length = sz) (hl : len ≤ 5000000000) (hP : ∀ k, x.ownBlock = some k → P (tag k)) : Vi e sz tag P x len w x m := by
  rcases hr.2 with ⟨q, q2⟩ | ⟨g, cap, cur, e1, _, e2, e3⟩
  · exact ⟨none, 0, 0, q, by omega, fun h => by omega⟩
  · refine ⟨_, len, cap, e1, hl, fun _ => ⟨g, cur, rfl, hP g (by rw [e1]; rfl), e2, fun _ => Nat.le_refl _, fun j hj t u ht hu => ?_⟩⟩
    subst e1
    refine owns_cell hr _ _ ?_
    have key : ∀ (l j : Nat), j < l → ((List.replicate l m).flatten)[j * sz + t]? = some u := by
      intro l
      induction l with
      | zero => intro j hj; omega
      | succ l ih =>
        intro j hj
        rw [List.replicate_succ, List.flatten_cons]
        cases j with
        | zero => rw [List.getElem?_append_left (by omega)]; simpa using hu
        | succ j =>
          rw [List.getElem?_append_right (by rw [hm, Nat.add_mul]; omega), show (j + 1) * sz + t - m.length = j * sz + t by rw [hm, Nat.add_mul]; omega]
          exact ih j (by omega)
    exact key len j hj
/-- The view of another x. -/
theorem Vi.other {x' : Value} {len' : Nat} {v : Value} {m : List Value} (h : Vi e sz tag P x len w v m) (hx : ∀ k, x'.ownBlock = some k → k < w.heap.size → ¬ P (tag k)) : Vi e sz tag P x' len' w v m := by
  obtain ⟨p, n, c, e1, e2, e3⟩ := h
  refine ⟨p, n, c, e1, e2, fun hn => ?_⟩
  obtain ⟨g, cur, f1, f2, f3, f4, f5⟩ := e3 hn
  exact ⟨g, cur, f1, f2, f3, fun q => absurd f2 (hx g q (lt_of_row f3)), f5⟩
theorem LD.other {x' : Value} {len' : Nat} (h : LD κ e sz T mk tag P vd Dn x len w) (hx : ∀ k, x'.ownBlock = some k → k < w.heap.size → ¬ P (tag k)) : LD κ e sz T mk tag P vd Dn x' len' w :=
  ⟨h.rd, h.td, fun j v hj => (h.dn j v hj).other hx⟩
/-- What append of one thing does to a row of one's own. -/
theorem gr_run (T e ty : TypeId) (z : Value) (sz bys : Nat) (ht : Tryz.prog.underlying T = some (.slice e)) (hinfo : (Tryz.prog.info? e).map (fun i => (i.zero, i.size, i.bytes)) = some (some z, sz, bys)) (hzs : z.cells.size = sz) (hsz : 0 < sz) (hby : bys ≤ 100)
    (w : World) (v : Value) (n : Nat) (xs news : List Value) (h : w.ownsRow 0 e sz v n xs) (hl : news.length = sz) (hone : ∀ u ∈ news, u.oneCell' = true) (q c : Nat) (hq : w.heap[q]? = some (.cells news.toArray e (0, 0))) (hL : n ≤ 5000000000) :
    ∃ v' w', (Builtin.append_ #[T, T] ty #[v, .slice (some ⟨q, 0, none⟩) 1 c]).run Tryz.prog w = .ok v' w' ∧ w'.ownsRow 0 e sz v' (n + 1) (xs ++ news) ∧ Gr e sz v n w w' ∧ ((∃ g, v.ownBlock = some g ∧ v'.ownBlock = some g) ∨ v'.ownBlock = some w.heap.size) := by
  obtain ⟨i0, hi, hz0, hz1, hz2⟩ := info_parts hinfo
  have hnews : ∀ j u, news[j]? = some u → w.cell? ((⟨q, 0, none⟩ : Addr).add j) = some u := by
    intro j u hj
    rw [add_at, cell_of_row w q j _ e (0, 0) hq]
    simpa using hj
  have hbb : (n + 1) * bys ≤ 5000000001 * 100 := Nat.mul_le_mul (by omega) hby
  obtain ⟨v', w', hr, ho, hg, hv⟩ := run_append_own (P := Tryz.prog) w 0 T ty e i0 _ sz bys ht hi hz0 hz1 hz2 hzs hsz v n xs h ⟨q, 0, none⟩ 1 c news (by simpa using hl) hnews hone (by unfold maxLen; omega) (by omega) (Nat.zero_le _)
  refine ⟨v', w', hr, ho, ?_⟩
  have hal : ∀ (o : Obj) (k : Nat), k < w.heap.size → (w.drew.alloc o).heap[k]? = w.heap[k]? := fun o k hk => Below.heap_alloc w.drew o k hk
  have hgrow : ∀ o, Gr e sz v n w (w.drew.alloc o) := fun o => by
    refine ⟨rfl, rfl, rfl, by simp, fun k hk _ => hal o k hk, fun g j hg _ => ?_, fun g cur hg e => ⟨cur, (hal o g (owns_blk h g hg)).trans e⟩⟩
    exact World.cell?_of_block (hal o g (owns_blk h g hg))
  rcases h.2 with ⟨rfl, rfl⟩ | ⟨g, cap, cur, rfl, _, e2, e3, e4, e5, e6⟩
  · have hr2 := run_append_nil (P := Tryz.prog) w T ty e i0 _ ht hi hz0 ⟨q, 0, none⟩ 1 c news (by rw [hz1, Nat.one_mul]; exact hl) hnews (by omega) (by omega) (by rw [hz2]; omega)
    rw [hr2] at hr
    cases hr
    exact ⟨hgrow _, .inr rfl⟩
  · by_cases hroom : n + 1 ≤ cap
    · have hfit : n * i0.size + news.length ≤ cur.size := by
        rw [hz1, e5, hl]
        have : (n + 1) * sz ≤ cap * sz := Nat.mul_le_mul_right _ hroom
        rw [Nat.add_mul, Nat.one_mul] at this
        exact this
      have hr2 := run_append_room (P := Tryz.prog) w T ty e i0 ht hi g n cap cur e2 ⟨q, 0, none⟩ 1 c news (by rw [hz1, Nat.one_mul]; exact hl) hnews hone hroom hfit
      rw [hr2] at hr
      cases hr
      refine ⟨⟨rfl, rfl, rfl, by simp, fun k _ hk => setRow_other w g k _ (fun e => hk (by simp [Value.ownBlock, e])), fun g' j hg' hj => ?_, fun g' cur' hg' ee => by
        obtain rfl : g = g' := by simpa [Value.ownBlock] using hg'
        exact ⟨_, setRow_heap w g cur _ e _ e2⟩⟩, .inl ⟨g, rfl, rfl⟩⟩
      obtain rfl : g = g' := by simpa [Value.ownBlock] using hg'
      rw [cell_of_row _ g j _ e (0, 0) (setRow_heap w g cur _ e _ e2), cell_of_row w g j _ e (0, 0) e2, hz1]
      have hlt : j < cur.size := by
        have : n * sz ≤ cap * sz := Nat.mul_le_mul_right _ e3
        omega
      have ee : (cur.toList.take (n * sz) ++ news ++ cur.toList.drop (n * sz + news.length))[j]? = cur.toList[j]? := by
        rw [List.append_assoc, List.getElem?_append_left (by rw [List.length_take]; have : n * sz ≤ cap * sz := Nat.mul_le_mul_right _ e3; simp; omega), List.getElem?_take, if_pos hj]
      simpa using ee
    · have holds : ∀ j u, xs[j]? = some u → w.cell? ((⟨g, 0, none⟩ : Addr).add j) = some u := World.ownsRow.cells h (g := g) rfl
      have hr2 := run_append_grow (P := Tryz.prog) w T ty e i0 _ ht hi hz0 ⟨g, 0, none⟩ n cap xs (by rw [hz1]; exact h.1) holds ⟨q, 0, none⟩ 1 c news (by rw [hz1, Nat.one_mul]; exact hl) hnews (by omega) (by omega) (growslice_fits (by omega) (by rw [hz2]; omega))
      rw [hr2] at hr
      cases hr
      exact ⟨hgrow _, .inr rfl⟩
/-- x = append(x, m), the new thing in a block that was just laid. -/
theorem wp_gr {ops : Array Oper} {rest : List Oper} {o : Oper} {a : Act} {Q : Exit → Act → World → Prop} (T e : TypeId) (z : Value) (sz bys : Nat) (ht : Tryz.prog.underlying T = some (.slice e)) (hinfo : (Tryz.prog.info? e).map (fun i => (i.zero, i.size, i.bytes)) = some (some z, sz, bys)) (hzs : z.cells.size = sz) (hsz : 0 < sz) (hby : bys ≤ 100)
    (hgd : o.guard = none) (s y : Operand) (ho : o.op = .call { callee := .builtin .append, args := #[s, y], argTypes := #[T, T] }) (v : Value) (n : Nat) (xs news : List Value) (hs : a.eval s = v) (w0 : World) (hb : w0.ownsRow 0 e sz v n xs) (hl : news.length = sz) (hone : ∀ u ∈ news, u.oneCell' = true)
    (hx : a.eval y = .slice (some ⟨w0.heap.size, 0, none⟩) 1 1) (hL : n ≤ 5000000000)
    (h : ∀ p c w', w'.ownsRow 0 e sz (.slice p (n + 1) c) (n + 1) (xs ++ news) → Gr e sz v n (w0.alloc (.cells news.toArray e)) w' → ((∃ g, v.ownBlock = some g ∧ (Value.slice p (n + 1) c).ownBlock = some g) ∨ (Value.slice p (n + 1) c).ownBlock = some (w0.heap.size + 1)) → wpList Tryz.prog ops Q rest (a.put o.dst (.slice p (n + 1) c)) w') : wpList Tryz.prog ops Q (o :: rest) a (w0.alloc (.cells news.toArray e)) := by
  refine wpList_plain hgd fun K hK => ?_
  have hb' : (w0.alloc (.cells news.toArray e)).ownsRow 0 e sz v n xs := owns_alloc hb _
  obtain ⟨v', w', hr, h2, h3, h4⟩ := gr_run T e o.type z sz bys ht hinfo hzs hsz hby _ v n xs news hb' hl hone w0.heap.size 1 (heap_alloc_new _ _) hL
  have hsz : (w0.alloc (.cells news.toArray e)).heap.size = w0.heap.size + 1 := by simp
  rw [hsz] at h4
  obtain ⟨p, c, rfl⟩ := owns_form h2
  unfold Oper.wp execOp
  simp only [ho, resolve, invoke, builtin, Sem.run_bind, Sem.run_pure, Result.andThen_ok, List.map_toArray, List.map_cons, List.map_nil, hs, hx, hr]
  exact hK _ _ (h p c w' h2 h3 h4)
end
end Go.Proofs.YtllialbdofklgaaGreatDoor
namespace Go.Proofs.YtllialbdofklgaaGreatDoor
open Go.RowKit
set_option maxHeartbeats 4000000
set_option maxRecDepth 8000
def mkv (n : Nat) : Bs := [109, 97, 114, 107, UInt8.ofNat (n % 256), UInt8.ofNat (n / 256 % 256)]
theorem mark_any (n : Nat) (w : World) : Calls Tryz.prog 51 #[I n] w fun e w' => e = .returned (S (mkv n)) ∧ Below w.heap.size w w' := by
  have h1 : ((n : Int) % 256) = ((UInt8.ofNat (n % 256)).toNat : Int) := by rw [UInt8.toNat_ofNat']; omega
  have h2 : ((n : Int) / 256) % 256 = ((UInt8.ofNat (n / 256 % 256)).toNat : Int) := by rw [UInt8.toNat_ofNat']; omega
  have ba := (Below.refl w.heap.size w).alloc (Nat.le_refl _) (.cells #[B (UInt8.ofNat (n % 256)), B (UInt8.ofNat (n / 256 % 256))] 5)
  have HB := hide ba
  have hz := heap_alloc_new w (.cells #[B (UInt8.ofNat (n % 256)), B (UInt8.ofNat (n / 256 % 256))] 5)
  have HT := hide (run_text (w.alloc (.cells #[B (UInt8.ofNat (n % 256)), B (UInt8.ofNat (n / 256 % 256))] 5)) w.heap.size 0 2 2 [UInt8.ofNat (n % 256), UInt8.ofNat (n / 256 % 256)] rfl (by
    intro j hj
    rw [Nat.zero_add, cell_of_row _ _ j _ 5 (0, 0) hz]
    match j, hj with
    | 0, _ => rfl
    | 1, _ => rfl))
  have HE := hide (show mkv n = [109, 97, 114, 107, UInt8.ofNat (n % 256), UInt8.ofNat (n / 256 % 256)] from rfl)
  clear ba hz
  generalize UInt8.ofNat (n % 256) = a at *
  generalize UInt8.ofNat (n / 256 % 256) = b at *
  go_enter Tryz.func51, Tryz.ntmps51
  go_wp2_with (refine wpList_conv rfl 79 9 (.tmp 8) rfl _ _ (by rfl) (unhide HT) ?_)
  go_ret
  refine ⟨?_, unhide HB⟩
  rw [unhide HE]
  rfl
end Go.Proofs.YtllialbdofklgaaGreatDoor
namespace Go.Proofs.YtllialbdofklgaaGreatDoor
open Go.RowKit
set_option maxHeartbeats 4000000
set_option maxRecDepth 8000
def mkS (n : Nat) : List Value := [S (mkv n)]
def mkI (n : Nat) : List Value := [I (-5 - (n : Int))]
/-- The blocks that may turn while the lists are looked at. -/
def Md (t : Tg) : Prop := t = (0, 0) ∨ t = (0, 3) ∨ t = (0, 6) ∨ t.1 = 3 ∨ t.1 = 4
/-- What views may lie in: what nobody writes any more, and the lists that were taken already. -/
def Pv (κ lo : Nat) (t : Tg) : Prop := t = (5, 0) ∨ (t.1 = 3 + κ ∧ t.2 < lo)
structure SS (w0 : World) (tag0 : Nat → Tg) (Z : Nat) (cs : Array Value) (tag : Nat → Tg) (w : World) : Prop where
  blk : w.heap[Z]? = some (.cells cs 36 (0, 0))
  tz : tag Z = (0, 0)
  onl : Only (fun k => Md (tag0 k)) w0 w
  agr : ∀ k, k < w0.heap.size → tag k = tag0 k
section
variable {w0 : World} {tag0 tag : Nat → Tg} {Z : Nat} {cs : Array Value} {w w' : World} {Q : Nat → Prop}
theorem SS.step (h : SS w0 tag0 Z cs tag w) (ho : Only Q w w') (hq : ∀ k, Q k → k < w.heap.size → Md (tag k) ∧ tag k ≠ (0, 0)) : SS w0 tag0 Z cs tag w' := by
  refine ⟨(ho.block Z (lt_of_row h.blk) (fun q => (hq Z q (lt_of_row h.blk)).2 h.tz)).trans h.blk, h.tz, h.onl.trans ho (fun k hk q => ?_), h.agr⟩
  have := (hq k q (Nat.lt_of_lt_of_le hk h.onl.size)).1
  rwa [h.agr k hk] at this
theorem SS.below (h : SS w0 tag0 Z cs tag w) (hb : Below w.heap.size w w') : SS w0 tag0 Z cs tag w' := h.step (Q := fun _ => False) (Only.of_below hb) (fun _ q => q.elim)
end
/-- All that is looked at. -/
structure S4 (w0 : World) (tag0 : Nat → Tg) (Z : Nat) (cs : Array Value) (tag : Nat → Tg)
    (N1 : Nat) (vs1 : Nat → Value) (ns1 : Nat → Nat) (C1 : Nat → List Value) (vf1 : Value) (lo1 : Nat) (vd1 : Value) (Dn1 : List Value) (x1 : Value) (len1 : Nat)
    (N2 : Nat) (vs2 : Nat → Value) (ns2 : Nat → Nat) (C2 : Nat → List Value) (vf2 : Value) (lo2 : Nat) (vd2 : Value) (Dn2 : List Value) (x2 : Value) (len2 : Nat) (w : World) : Prop where
  s : SS w0 tag0 Z cs tag w
  b1 : LB 0 9 1 22 tag N1 vs1 ns1 C1 vf1 lo1 w
  d1 : LD 0 9 1 22 mkS tag (Pv 0 lo1) vd1 Dn1 x1 len1 w
  b2 : LB 1 3 1 23 tag N2 vs2 ns2 C2 vf2 lo2 w
  d2 : LD 1 3 1 23 mkI tag (Pv 1 lo2) vd2 Dn2 x2 len2 w
section
variable {w0 : World} {tag0 tag : Nat → Tg} {Z : Nat} {cs : Array Value} {w w' : World} {Q : Nat → Prop}
  {N1 : Nat} {vs1 : Nat → Value} {ns1 : Nat → Nat} {C1 : Nat → List Value} {vf1 : Value} {lo1 : Nat} {vd1 : Value} {Dn1 : List Value} {x1 : Value} {len1 : Nat}
  {N2 : Nat} {vs2 : Nat → Value} {ns2 : Nat → Nat} {C2 : Nat → List Value} {vf2 : Value} {lo2 : Nat} {vd2 : Value} {Dn2 : List Value} {x2 : Value} {len2 : Nat}
theorem S4.below (h : S4 w0 tag0 Z cs tag N1 vs1 ns1 C1 vf1 lo1 vd1 Dn1 x1 len1 N2 vs2 ns2 C2 vf2 lo2 vd2 Dn2 x2 len2 w) (hb : Below w.heap.size w w') : S4 w0 tag0 Z cs tag N1 vs1 ns1 C1 vf1 lo1 vd1 Dn1 x1 len1 N2 vs2 ns2 C2 vf2 lo2 vd2 Dn2 x2 len2 w' :=
  ⟨h.s.below hb, h.b1.below hb, h.d1.below hb, h.b2.below hb, h.d2.below hb⟩
theorem tg_ne {a b c d : Nat} (h : a ≠ c) : ((a, b) : Tg) ≠ (c, d) := fun q => h (congrArg Prod.fst q)
theorem not_pv0 {κ lo b : Nat} : ¬ Pv κ lo (0, b) := by
  rintro (q | ⟨q, _⟩)
  · have := congrArg Prod.fst q; simp at this
  · simp at q; omega
theorem not_pvi {κ lo i : Nat} (h : lo ≤ i) (hk : κ ≤ 1) : ¬ Pv κ lo (3 + κ, i) := by
  rintro (q | ⟨_, q⟩)
  · have := congrArg Prod.fst q; simp at this; omega
  · simp at q; omega
theorem not_pvo {κ κ' lo i : Nat} (h : κ ≠ κ') (hk : κ' ≤ 1) : ¬ Pv κ lo (3 + κ', i) := by
  rintro (q | ⟨q, _⟩)
  · have := congrArg Prod.fst q; simp at this; omega
  · simp at q; omega
theorem S4.mark1 (h : S4 w0 tag0 Z cs tag N1 vs1 ns1 C1 vf1 lo1 vd1 Dn1 x1 len1 N2 vs2 ns2 C2 vf2 lo2 vd2 Dn2 x2 len2 w) {i : Nat} {c' : List Value} (hi : lo1 ≤ i) (hr : w'.ownsRow 0 9 1 (vs1 i) (ns1 i) c') (ho : Only Q w w') (hq : ∀ k, Q k → k < w.heap.size → tag k = (3, i)) :
    S4 w0 tag0 Z cs tag N1 vs1 ns1 (fun j => if j = i then c' else C1 j) vf1 lo1 vd1 Dn1 x1 len1 N2 vs2 ns2 C2 vf2 lo2 vd2 Dn2 x2 len2 w' := by
  refine ⟨h.s.step ho (fun k q l => ?_), h.b1.set hr ho hq, h.d1.only ho (fun k q l => ?_), h.b2.only ho (fun k q l => ?_), h.d2.only ho (fun k q l => ?_)⟩ <;> rw [hq k q l]
  · exact ⟨.inr (.inr (.inr (.inl rfl))), tg_ne (by decide)⟩
  · exact ⟨tg_ne (by decide), not_pvi (κ := 0) hi (by decide)⟩
  · exact ⟨tg_ne (by decide), fun j _ => tg_ne (by decide)⟩
  · exact ⟨tg_ne (by decide), not_pvo (κ := 1) (κ' := 0) (by decide) (by decide)⟩
theorem S4.mark2 (h : S4 w0 tag0 Z cs tag N1 vs1 ns1 C1 vf1 lo1 vd1 Dn1 x1 len1 N2 vs2 ns2 C2 vf2 lo2 vd2 Dn2 x2 len2 w) {i : Nat} {c' : List Value} (hi : lo2 ≤ i) (hr : w'.ownsRow 0 3 1 (vs2 i) (ns2 i) c') (ho : Only Q w w') (hq : ∀ k, Q k → k < w.heap.size → tag k = (4, i)) :
    S4 w0 tag0 Z cs tag N1 vs1 ns1 C1 vf1 lo1 vd1 Dn1 x1 len1 N2 vs2 ns2 (fun j => if j = i then c' else C2 j) vf2 lo2 vd2 Dn2 x2 len2 w' := by
  refine ⟨h.s.step ho (fun k q l => ?_), h.b1.only ho (fun k q l => ?_), h.d1.only ho (fun k q l => ?_), h.b2.set hr ho hq, h.d2.only ho (fun k q l => ?_)⟩ <;> rw [hq k q l]
  · exact ⟨.inr (.inr (.inr (.inr rfl))), tg_ne (by decide)⟩
  · exact ⟨tg_ne (by decide), fun j _ => tg_ne (by decide)⟩
  · exact ⟨tg_ne (by decide), not_pvo (κ := 0) (κ' := 1) (by decide) (by decide)⟩
  · exact ⟨tg_ne (by decide), not_pvi (κ := 1) hi (by decide)⟩
theorem Pv.mono {κ lo lo' : Nat} {t : Tg} (h : Pv κ lo t) (hl : lo ≤ lo') : Pv κ lo' t := by
  rcases h with q | ⟨q, q2⟩
  · exact .inl q
  · exact .inr ⟨q, by omega⟩
theorem S4.take1 (h : S4 w0 tag0 Z cs tag N1 vs1 ns1 C1 vf1 lo1 vd1 Dn1 x1 len1 N2 vs2 ns2 C2 vf2 lo2 vd2 Dn2 x2 len2 w) (hi : lo1 < N1) :
    S4 w0 tag0 Z cs tag N1 vs1 ns1 C1 vf1 (lo1 + 1) vd1 Dn1 (vs1 lo1) (ns1 lo1) N2 vs2 ns2 C2 vf2 lo2 vd2 Dn2 x2 len2 w ∧ w.ownsRow 0 9 1 (vs1 lo1) (ns1 lo1) (C1 lo1) ∧ ∀ k, (vs1 lo1).ownBlock = some k → tag k = (3, lo1) :=
  ⟨⟨h.s, h.b1.take, (h.d1.other (fun k hk _ => by rw [h.b1.ft lo1 (Nat.le_refl _) hi k hk]; exact not_pvi (κ := 0) (Nat.le_refl _) (by decide))).retag (fun k _ q => q) (fun k _ q => q.mono (by omega)), h.b2, h.d2⟩, h.b1.fl lo1 (Nat.le_refl _) hi, h.b1.ft lo1 (Nat.le_refl _) hi⟩
theorem S4.take2 (h : S4 w0 tag0 Z cs tag N1 vs1 ns1 C1 vf1 lo1 vd1 Dn1 x1 len1 N2 vs2 ns2 C2 vf2 lo2 vd2 Dn2 x2 len2 w) (hi : lo2 < N2) :
    S4 w0 tag0 Z cs tag N1 vs1 ns1 C1 vf1 lo1 vd1 Dn1 x1 len1 N2 vs2 ns2 C2 vf2 (lo2 + 1) vd2 Dn2 (vs2 lo2) (ns2 lo2) w ∧ w.ownsRow 0 3 1 (vs2 lo2) (ns2 lo2) (C2 lo2) ∧ ∀ k, (vs2 lo2).ownBlock = some k → tag k = (4, lo2) :=
  ⟨⟨h.s, h.b1, h.d1, h.b2.take, (h.d2.other (fun k hk _ => by rw [h.b2.ft lo2 (Nat.le_refl _) hi k hk]; exact not_pvi (κ := 1) (Nat.le_refl _) (by decide))).retag (fun k _ q => q) (fun k _ q => q.mono (by omega))⟩, h.b2.fl lo2 (Nat.le_refl _) hi, h.b2.ft lo2 (Nat.le_refl _) hi⟩
/-- done = append(done, x). -/
theorem S4.view1 (h : S4 w0 tag0 Z cs tag N1 vs1 ns1 C1 vf1 lo1 vd1 Dn1 x1 len1 N2 vs2 ns2 C2 vf2 lo2 vd2 Dn2 x2 len2 w) {vd' v : Value} (hr : w'.ownsRow 0 22 1 vd' (Dn1.length + 1) (Dn1 ++ [v])) (ho : Only (fun k => vd1.ownBlock = some k) w w') (hn : ∀ k, vd'.ownBlock = some k → vd1.ownBlock = some k ∨ w.heap.size ≤ k)
    (hv : Vi 9 1 tag (Pv 0 lo1) x1 len1 w v (mkS (Dn1.length / 20))) : S4 w0 tag0 Z cs (ext tag w.heap.size (0, 3)) N1 vs1 ns1 C1 vf1 lo1 vd' (Dn1 ++ [v]) x1 len1 N2 vs2 ns2 C2 vf2 lo2 vd2 Dn2 x2 len2 w' := by
  have hq : ∀ k, vd1.ownBlock = some k → k < w.heap.size → tag k = (0, 3) := fun k q _ => h.d1.td k q
  have ha : ∀ k, k < w.heap.size → ext tag w.heap.size (0, 3) k = tag k := fun k hk => ext_old hk
  have hs : SS w0 tag0 Z cs tag w' := h.s.step ho (fun k q l => by rw [hq k q l]; exact ⟨.inr (.inl rfl), by decide⟩)
  refine ⟨⟨hs.blk, by rw [ext_old (lt_of_row h.s.blk)]; exact hs.tz, hs.onl, fun k hk => by rw [ext_old (Nat.lt_of_lt_of_le hk h.s.onl.size)]; exact hs.agr k hk⟩, (h.b1.retag ha).only ho (fun k q l => ?_), h.d1.push hr ho hn hv (fun b => not_pv0), (h.b2.retag ha).only ho (fun k q l => ?_), (h.d2.retag (fun k l q => by rw [ha k l]; exact q) (fun k l q => by rw [ha k l]; exact q)).only ho (fun k q l => ?_)⟩ <;> rw [ha k l, hq k q l]
  · exact ⟨by decide, fun i _ => tg_ne (by decide)⟩
  · exact ⟨by decide, fun i _ => tg_ne (by decide)⟩
  · exact ⟨by decide, not_pv0⟩
theorem S4.view2 (h : S4 w0 tag0 Z cs tag N1 vs1 ns1 C1 vf1 lo1 vd1 Dn1 x1 len1 N2 vs2 ns2 C2 vf2 lo2 vd2 Dn2 x2 len2 w) {vd' v : Value} (hr : w'.ownsRow 0 23 1 vd' (Dn2.length + 1) (Dn2 ++ [v])) (ho : Only (fun k => vd2.ownBlock = some k) w w') (hn : ∀ k, vd'.ownBlock = some k → vd2.ownBlock = some k ∨ w.heap.size ≤ k)
    (hv : Vi 3 1 tag (Pv 1 lo2) x2 len2 w v (mkI (Dn2.length / 20))) : S4 w0 tag0 Z cs (ext tag w.heap.size (0, 6)) N1 vs1 ns1 C1 vf1 lo1 vd1 Dn1 x1 len1 N2 vs2 ns2 C2 vf2 lo2 vd' (Dn2 ++ [v]) x2 len2 w' := by
  have hq : ∀ k, vd2.ownBlock = some k → k < w.heap.size → tag k = (0, 6) := fun k q _ => h.d2.td k q
  have ha : ∀ k, k < w.heap.size → ext tag w.heap.size (0, 6) k = tag k := fun k hk => ext_old hk
  have hs : SS w0 tag0 Z cs tag w' := h.s.step ho (fun k q l => by rw [hq k q l]; exact ⟨.inr (.inr (.inl rfl)), by decide⟩)
  refine ⟨⟨hs.blk, by rw [ext_old (lt_of_row h.s.blk)]; exact hs.tz, hs.onl, fun k hk => by rw [ext_old (Nat.lt_of_lt_of_le hk h.s.onl.size)]; exact hs.agr k hk⟩, (h.b1.retag ha).only ho (fun k q l => ?_), (h.d1.retag (fun k l q => by rw [ha k l]; exact q) (fun k l q => by rw [ha k l]; exact q)).only ho (fun k q l => ?_), (h.b2.retag ha).only ho (fun k q l => ?_), h.d2.push hr ho hn hv (fun b => not_pv0)⟩ <;> rw [ha k l, hq k q l]
  · exact ⟨by decide, fun i _ => tg_ne (by decide)⟩
  · exact ⟨by decide, not_pv0⟩
  · exact ⟨by decide, fun i _ => tg_ne (by decide)⟩
/-- x = append(x, mark). -/
theorem S4.grow1 (h : S4 w0 tag0 Z cs tag N1 vs1 ns1 C1 vf1 lo1 vd1 Dn1 x1 len1 N2 vs2 ns2 C2 vf2 lo2 vd2 Dn2 x2 len2 w) {x' : Value} {i : Nat} (hi : i < lo1) (hg : Gr 9 1 x1 len1 w w') (hx : (∃ g, x1.ownBlock = some g ∧ x'.ownBlock = some g) ∨ x'.ownBlock = some w.heap.size) (ht : ∀ k, x1.ownBlock = some k → tag k = (3, i)) :
    S4 w0 tag0 Z cs (ext tag w.heap.size (3, i)) N1 vs1 ns1 C1 vf1 lo1 vd1 Dn1 x' (len1 + 1) N2 vs2 ns2 C2 vf2 lo2 vd2 Dn2 x2 len2 w' ∧ ∀ k, x'.ownBlock = some k → ext tag w.heap.size (3, i) k = (3, i) := by
  have ha : ∀ k, k < w.heap.size → ext tag w.heap.size (3, i) k = tag k := fun k hk => ext_old hk
  have ho := hg.only
  have hs : SS w0 tag0 Z cs tag w' := h.s.step ho (fun k q l => by rw [ht k q]; exact ⟨.inr (.inr (.inr (.inl rfl))), tg_ne (by decide)⟩)
  refine ⟨⟨⟨hs.blk, by rw [ext_old (lt_of_row h.s.blk)]; exact hs.tz, hs.onl, fun k hk => by rw [ext_old (Nat.lt_of_lt_of_le hk h.s.onl.size)]; exact hs.agr k hk⟩, (h.b1.retag ha).only ho (fun k q l => ?_), h.d1.grow hg hx (fun k q => by rw [ht k q]; exact tg_ne (by decide)), (h.b2.retag ha).only ho (fun k q l => ?_), (h.d2.retag (fun k l q => by rw [ha k l]; exact q) (fun k l q => by rw [ha k l]; exact q)).only ho (fun k q l => ?_)⟩, fun k hk => ?_⟩
  · rw [ha k l, ht k q]; exact ⟨tg_ne (by decide), fun j hj e => by have := congrArg Prod.snd e; simp at this; omega⟩
  · rw [ha k l, ht k q]; exact ⟨tg_ne (by decide), fun j _ => tg_ne (by decide)⟩
  · rw [ha k l, ht k q]; exact ⟨tg_ne (by decide), not_pvo (κ := 1) (κ' := 0) (by decide) (by decide)⟩
  · by_cases hk2 : k < w.heap.size
    · rw [ha k hk2]
      rcases hx with ⟨g, q1, q2⟩ | q
      · rw [hk] at q2; cases q2; exact ht k q1
      · rw [hk] at q; cases q; omega
    · exact ext_new (by omega)
theorem S4.grow2 (h : S4 w0 tag0 Z cs tag N1 vs1 ns1 C1 vf1 lo1 vd1 Dn1 x1 len1 N2 vs2 ns2 C2 vf2 lo2 vd2 Dn2 x2 len2 w) {x' : Value} {i : Nat} (hi : i < lo2) (hg : Gr 3 1 x2 len2 w w') (hx : (∃ g, x2.ownBlock = some g ∧ x'.ownBlock = some g) ∨ x'.ownBlock = some w.heap.size) (ht : ∀ k, x2.ownBlock = some k → tag k = (4, i)) :
    S4 w0 tag0 Z cs (ext tag w.heap.size (4, i)) N1 vs1 ns1 C1 vf1 lo1 vd1 Dn1 x1 len1 N2 vs2 ns2 C2 vf2 lo2 vd2 Dn2 x' (len2 + 1) w' ∧ ∀ k, x'.ownBlock = some k → ext tag w.heap.size (4, i) k = (4, i) := by
  have ha : ∀ k, k < w.heap.size → ext tag w.heap.size (4, i) k = tag k := fun k hk => ext_old hk
  have ho := hg.only
  have hs : SS w0 tag0 Z cs tag w' := h.s.step ho (fun k q l => by rw [ht k q]; exact ⟨.inr (.inr (.inr (.inr rfl))), tg_ne (by decide)⟩)
  refine ⟨⟨⟨hs.blk, by rw [ext_old (lt_of_row h.s.blk)]; exact hs.tz, hs.onl, fun k hk => by rw [ext_old (Nat.lt_of_lt_of_le hk h.s.onl.size)]; exact hs.agr k hk⟩, (h.b1.retag ha).only ho (fun k q l => ?_), (h.d1.retag (fun k l q => by rw [ha k l]; exact q) (fun k l q => by rw [ha k l]; exact q)).only ho (fun k q l => ?_), (h.b2.retag ha).only ho (fun k q l => ?_), h.d2.grow hg hx (fun k q => by rw [ht k q]; exact tg_ne (by decide))⟩, fun k hk => ?_⟩
  · rw [ha k l, ht k q]; exact ⟨tg_ne (by decide), fun j _ => tg_ne (by decide)⟩
  · rw [ha k l, ht k q]; exact ⟨tg_ne (by decide), not_pvo (κ := 0) (κ' := 1) (by decide) (by decide)⟩
  · rw [ha k l, ht k q]; exact ⟨tg_ne (by decide), fun j hj e => by have := congrArg Prod.snd e; simp at this; omega⟩
  · by_cases hk2 : k < w.heap.size
    · rw [ha k hk2]
      rcases hx with ⟨g, q1, q2⟩ | q
      · rw [hk] at q2; cases q2; exact ht k q1
      · rw [hk] at q; cases q; omega
    · exact ext_new (by omega)
end
/-- The cells when i lists are all marks and k things of the next one are. -/
def prt (mk : Nat → List Value) (sz : Nat) (ns : Nat → Nat) (C : Nat → List Value) (i k : Nat) : Nat → List Value := fun j => if j < i then (List.replicate (ns j) (mk j)).flatten else if j = i then (List.replicate k (mk i)).flatten ++ (C i).drop (k * sz) else C j
section
variable {mk : Nat → List Value} {sz : Nat} {ns : Nat → Nat} {C : Nat → List Value}
theorem prt_zero : prt mk sz ns C 0 0 = C := by
  funext j
  unfold prt
  by_cases h : j = 0 <;> simp [h]
theorem prt_next (i : Nat) (hc : (C i).length = ns i * sz) : prt mk sz ns C i (ns i) = prt mk sz ns C (i + 1) 0 := by
  funext j
  unfold prt
  by_cases h1 : j < i
  · rw [if_pos h1, if_pos (by omega)]
  · by_cases h2 : j = i
    · subst h2
      rw [if_neg h1, if_pos rfl, if_pos (by omega), List.drop_of_length_le (by omega), List.append_nil]
    · rw [if_neg h1, if_neg h2, if_neg (by omega)]
      by_cases h3 : j = i + 1
      · subst h3
        rw [if_pos rfl]
        simp
      · rw [if_neg h3]
theorem prt_done (i j : Nat) (h : j < i) : prt mk sz ns C i 0 j = (List.replicate (ns j) (mk j)).flatten := if_pos h
theorem flat_len {m : List Value} (hm : m.length = sz) (k : Nat) : ((List.replicate k m).flatten).length = k * sz := by
  induction k with
  | zero => simp
  | succ k ih => rw [List.replicate_succ, List.flatten_cons, List.length_append, ih, hm, Nat.add_mul]; omega
theorem flat_succ {m : List Value} (k : Nat) : (List.replicate (k + 1) m).flatten = (List.replicate k m).flatten ++ m := by
  rw [List.replicate_succ']
  simp
theorem prt_at (i k : Nat) : prt mk sz ns C i k i = (List.replicate k (mk i)).flatten ++ (C i).drop (k * sz) := by
  unfold prt
  rw [if_neg (Nat.lt_irrefl _), if_pos rfl]
theorem prt_step (i k : Nat) (c' : List Value) (h : c' = prt mk sz ns C i (k + 1) i) : (fun j => if j = i then c' else prt mk sz ns C i k j) = prt mk sz ns C i (k + 1) := by
  funext j
  by_cases hj : j = i
  · subst hj
    rw [if_pos rfl, h]
  · rw [if_neg hj]
    unfold prt
    by_cases h1 : j < i
    · rw [if_pos h1, if_pos h1]
    · rw [if_neg h1, if_neg hj, if_neg h1, if_neg hj]
end
theorem prt_set1 (ns : Nat → Nat) (C : Nat → List Value) (i k : Nat) (hc : (C i).length = ns i * 1) (hk : k < ns i) : (prt mkS 1 ns C i k i).set k (S (mkv i)) = prt mkS 1 ns C i (k + 1) i := by
  rw [prt_at, prt_at]
  have hl : ((List.replicate k (mkS i)).flatten).length = k := by rw [flat_len (sz := 1) rfl]; omega
  rw [List.set_append_right _ _ (by omega), hl, Nat.sub_self, flat_succ, List.append_assoc]
  congr 1
  rw [Nat.mul_one, Nat.mul_one, List.drop_eq_getElem_cons (by omega)]
  rfl
theorem prt_set2 (ns : Nat → Nat) (C : Nat → List Value) (i k : Nat) (hc : (C i).length = ns i * 1) (hk : k < ns i) : (prt mkI 1 ns C i k i).set k (I (-5 - (i : Int))) = prt mkI 1 ns C i (k + 1) i := by
  rw [prt_at, prt_at]
  have hl : ((List.replicate k (mkI i)).flatten).length = k := by rw [flat_len (sz := 1) rfl]; omega
  rw [List.set_append_right _ _ (by omega), hl, Nat.sub_self, flat_succ, List.append_assoc]
  congr 1
  rw [Nat.mul_one, Nat.mul_one, List.drop_eq_getElem_cons (by omega)]
  rfl
/-- While a list grows. -/
structure G1 (w0 : World) (tag0 : Nat → Tg) (Z : Nat) (cs : Array Value) (tag : Nat → Tg)
    (N1 : Nat) (vs1 : Nat → Value) (ns1 : Nat → Nat) (C1 : Nat → List Value) (vf1 : Value) (lo1 : Nat) (vd1 : Value) (Dn1 : List Value) (x1 : Value) (len1 : Nat)
    (N2 : Nat) (vs2 : Nat → Value) (ns2 : Nat → Nat) (C2 : Nat → List Value) (vf2 : Value) (lo2 : Nat) (vd2 : Value) (Dn2 : List Value) (x2 : Value) (len2 : Nat) (i m : Nat) (w : World) : Prop where
  s : S4 w0 tag0 Z cs tag N1 vs1 ns1 C1 vf1 lo1 vd1 Dn1 x1 len1 N2 vs2 ns2 C2 vf2 lo2 vd2 Dn2 x2 len2 w
  xr : w.ownsRow 0 9 1 x1 len1 ((List.replicate len1 (mkS m)).flatten)
  xt : ∀ k, x1.ownBlock = some k → tag k = (3, i)
  hi : i < lo1
section
variable {w0 : World} {tag0 : Nat → Tg} {Z : Nat} {cs : Array Value} {tag : Nat → Tg}
    {N1 : Nat} {vs1 : Nat → Value} {ns1 : Nat → Nat} {C1 : Nat → List Value} {vf1 : Value} {lo1 : Nat} {vd1 : Value} {Dn1 : List Value} {x1 : Value} {len1 : Nat}
    {N2 : Nat} {vs2 : Nat → Value} {ns2 : Nat → Nat} {C2 : Nat → List Value} {vf2 : Value} {lo2 : Nat} {vd2 : Value} {Dn2 : List Value} {x2 : Value} {len2 : Nat} {i m : Nat} {w w' : World}
theorem G1.below (h : G1 w0 tag0 Z cs tag N1 vs1 ns1 C1 vf1 lo1 vd1 Dn1 x1 len1 N2 vs2 ns2 C2 vf2 lo2 vd2 Dn2 x2 len2 i m w) (hb : Below w.heap.size w w') : G1 w0 tag0 Z cs tag N1 vs1 ns1 C1 vf1 lo1 vd1 Dn1 x1 len1 N2 vs2 ns2 C2 vf2 lo2 vd2 Dn2 x2 len2 i m w' := ⟨h.s.below hb, owns_below h.xr hb, h.xt, h.hi⟩
theorem G1.view (h : G1 w0 tag0 Z cs tag N1 vs1 ns1 C1 vf1 lo1 vd1 Dn1 x1 len1 N2 vs2 ns2 C2 vf2 lo2 vd2 Dn2 x2 len2 i m w) (hm : Dn1.length / 20 = m) (hl : len1 ≤ 5000000000) {vd' : Value} (hr : w'.ownsRow 0 22 1 vd' (Dn1.length + 1) (Dn1 ++ [x1])) (ho : Only (fun k => vd1.ownBlock = some k) w w') (hn : ∀ k, vd'.ownBlock = some k → vd1.ownBlock = some k ∨ w.heap.size ≤ k) :
    G1 w0 tag0 Z cs (ext tag w.heap.size (0, 3)) N1 vs1 ns1 C1 vf1 lo1 vd' (Dn1 ++ [x1]) x1 len1 N2 vs2 ns2 C2 vf2 lo2 vd2 Dn2 x2 len2 i m w' := by
  have hv : Vi 9 1 tag (Pv 0 lo1) x1 len1 w x1 (mkS (Dn1.length / 20)) := by
    rw [hm]
    exact Vi.of h.xr rfl hl (fun k hk => by rw [h.xt k hk]; exact .inr ⟨rfl, h.hi⟩)
  refine ⟨h.s.view1 hr ho hn hv, owns_only h.xr ho (fun k hk q => ?_), fun k hk => ?_, h.hi⟩
  · have a := h.xt k hk
    rw [h.s.d1.td k q] at a
    exact absurd a (tg_ne (by decide))
  · rw [ext_old (owns_blk h.xr k hk)]
    exact h.xt k hk
theorem G1.grow (h : G1 w0 tag0 Z cs tag N1 vs1 ns1 C1 vf1 lo1 vd1 Dn1 x1 len1 N2 vs2 ns2 C2 vf2 lo2 vd2 Dn2 x2 len2 i m w) {x' : Value} (hr : w'.ownsRow 0 9 1 x' (len1 + 1) ((List.replicate len1 (mkS m)).flatten ++ mkS m)) (hg : Gr 9 1 x1 len1 w w') (hx : (∃ g, x1.ownBlock = some g ∧ x'.ownBlock = some g) ∨ x'.ownBlock = some w.heap.size) :
    G1 w0 tag0 Z cs (ext tag w.heap.size (3, i)) N1 vs1 ns1 C1 vf1 lo1 vd1 Dn1 x' (len1 + 1) N2 vs2 ns2 C2 vf2 lo2 vd2 Dn2 x2 len2 i m w' := by
  obtain ⟨a, b⟩ := h.s.grow1 h.hi hg hx h.xt
  exact ⟨a, by rw [flat_succ]; exact hr, b, h.hi⟩
theorem G1.start (h : S4 w0 tag0 Z cs tag N1 vs1 ns1 C1 vf1 lo1 vd1 Dn1 x1 len1 N2 vs2 ns2 C2 vf2 lo2 vd2 Dn2 x2 len2 w) (hi : lo1 < N1) (hC : C1 lo1 = (List.replicate (ns1 lo1) (mkS m)).flatten) :
    G1 w0 tag0 Z cs tag N1 vs1 ns1 C1 vf1 (lo1 + 1) vd1 Dn1 (vs1 lo1) (ns1 lo1) N2 vs2 ns2 C2 vf2 lo2 vd2 Dn2 x2 len2 lo1 m w := by
  obtain ⟨a, b, c⟩ := h.take1 hi
  exact ⟨a, by rw [← hC]; exact b, c, Nat.lt_succ_self _⟩
end
/-- While a list grows. -/
structure G2 (w0 : World) (tag0 : Nat → Tg) (Z : Nat) (cs : Array Value) (tag : Nat → Tg)
    (N1 : Nat) (vs1 : Nat → Value) (ns1 : Nat → Nat) (C1 : Nat → List Value) (vf1 : Value) (lo1 : Nat) (vd1 : Value) (Dn1 : List Value) (x1 : Value) (len1 : Nat)
    (N2 : Nat) (vs2 : Nat → Value) (ns2 : Nat → Nat) (C2 : Nat → List Value) (vf2 : Value) (lo2 : Nat) (vd2 : Value) (Dn2 : List Value) (x2 : Value) (len2 : Nat) (i m : Nat) (w : World) : Prop where
  s : S4 w0 tag0 Z cs tag N1 vs1 ns1 C1 vf1 lo1 vd1 Dn1 x1 len1 N2 vs2 ns2 C2 vf2 lo2 vd2 Dn2 x2 len2 w
  xr : w.ownsRow 0 3 1 x2 len2 ((List.replicate len2 (mkI m)).flatten)
  xt : ∀ k, x2.ownBlock = some k → tag k = (4, i)
  hi : i < lo2
section
variable {w0 : World} {tag0 : Nat → Tg} {Z : Nat} {cs : Array Value} {tag : Nat → Tg}
    {N1 : Nat} {vs1 : Nat → Value} {ns1 : Nat → Nat} {C1 : Nat → List Value} {vf1 : Value} {lo1 : Nat} {vd1 : Value} {Dn1 : List Value} {x1 : Value} {len1 : Nat}
    {N2 : Nat} {vs2 : Nat → Value} {ns2 : Nat → Nat} {C2 : Nat → List Value} {vf2 : Value} {lo2 : Nat} {vd2 : Value} {Dn2 : List Value} {x2 : Value} {len2 : Nat} {i m : Nat} {w w' : World}
theorem G2.below (h : G2 w0 tag0 Z cs tag N1 vs1 ns1 C1 vf1 lo1 vd1 Dn1 x1 len1 N2 vs2 ns2 C2 vf2 lo2 vd2 Dn2 x2 len2 i m w) (hb : Below w.heap.size w w') : G2 w0 tag0 Z cs tag N1 vs1 ns1 C1 vf1 lo1 vd1 Dn1 x1 len1 N2 vs2 ns2 C2 vf2 lo2 vd2 Dn2 x2 len2 i m w' := ⟨h.s.below hb, owns_below h.xr hb, h.xt, h.hi⟩
theorem G2.view (h : G2 w0 tag0 Z cs tag N1 vs1 ns1 C1 vf1 lo1 vd1 Dn1 x1 len1 N2 vs2 ns2 C2 vf2 lo2 vd2 Dn2 x2 len2 i m w) (hm : Dn2.length / 20 = m) (hl : len2 ≤ 5000000000) {vd' : Value} (hr : w'.ownsRow 0 23 1 vd' (Dn2.length + 1) (Dn2 ++ [x2])) (ho : Only (fun k => vd2.ownBlock = some k) w w') (hn : ∀ k, vd'.ownBlock = some k → vd2.ownBlock = some k ∨ w.heap.size ≤ k) :
    G2 w0 tag0 Z cs (ext tag w.heap.size (0, 6)) N1 vs1 ns1 C1 vf1 lo1 vd1 Dn1 x1 len1 N2 vs2 ns2 C2 vf2 lo2 vd' (Dn2 ++ [x2]) x2 len2 i m w' := by
  have hv : Vi 3 1 tag (Pv 1 lo2) x2 len2 w x2 (mkI (Dn2.length / 20)) := by
    rw [hm]
    exact Vi.of h.xr rfl hl (fun k hk => by rw [h.xt k hk]; exact .inr ⟨rfl, h.hi⟩)
  refine ⟨h.s.view2 hr ho hn hv, owns_only h.xr ho (fun k hk q => ?_), fun k hk => ?_, h.hi⟩
  · have a := h.xt k hk
    rw [h.s.d2.td k q] at a
    exact absurd a (tg_ne (by decide))
  · rw [ext_old (owns_blk h.xr k hk)]
    exact h.xt k hk
theorem G2.grow (h : G2 w0 tag0 Z cs tag N1 vs1 ns1 C1 vf1 lo1 vd1 Dn1 x1 len1 N2 vs2 ns2 C2 vf2 lo2 vd2 Dn2 x2 len2 i m w) {x' : Value} (hr : w'.ownsRow 0 3 1 x' (len2 + 1) ((List.replicate len2 (mkI m)).flatten ++ mkI m)) (hg : Gr 3 1 x2 len2 w w') (hx : (∃ g, x2.ownBlock = some g ∧ x'.ownBlock = some g) ∨ x'.ownBlock = some w.heap.size) :
    G2 w0 tag0 Z cs (ext tag w.heap.size (4, i)) N1 vs1 ns1 C1 vf1 lo1 vd1 Dn1 x1 len1 N2 vs2 ns2 C2 vf2 lo2 vd2 Dn2 x' (len2 + 1) i m w' := by
  obtain ⟨a, b⟩ := h.s.grow2 h.hi hg hx h.xt
  exact ⟨a, by rw [flat_succ]; exact hr, b, h.hi⟩
theorem G2.start (h : S4 w0 tag0 Z cs tag N1 vs1 ns1 C1 vf1 lo1 vd1 Dn1 x1 len1 N2 vs2 ns2 C2 vf2 lo2 vd2 Dn2 x2 len2 w) (hi : lo2 < N2) (hC : C2 lo2 = (List.replicate (ns2 lo2) (mkI m)).flatten) :
    G2 w0 tag0 Z cs tag N1 vs1 ns1 C1 vf1 lo1 vd1 Dn1 x1 len1 N2 vs2 ns2 C2 vf2 (lo2 + 1) vd2 Dn2 (vs2 lo2) (ns2 lo2) lo2 m w := by
  obtain ⟨a, b, c⟩ := h.take2 hi
  exact ⟨a, by rw [← hC]; exact b, c, Nat.lt_succ_self _⟩
end
end Go.Proofs.YtllialbdofklgaaGreatDoor
