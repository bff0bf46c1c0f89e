import Derived.Test.YtpelmacblglhoaaDuh
import Derived.Test.YtpelmacblglhoaaDsu
import Derived.BigQuiet
namespace Go.Proofs.Ytpelmacblglhoaa
open Go.RowKit
set_option maxHeartbeats 8000000
set_option maxRecDepth 8000
def cellsP (l : List Kp) : List Value := l.flatMap fun x => [I x.1, I x.2]
theorem cellsP_len (l : List Kp) : (cellsP l).length = l.length * 2 := by
  unfold cellsP
  induction l with
  | nil => rfl
  | cons f l ih => rw [List.flatMap_cons, List.length_append, ih]; simp; omega
theorem cellsP_append (a b : List Kp) : cellsP (a ++ b) = cellsP a ++ cellsP b := by simp [cellsP]
theorem cellsP_at (l : List Kp) (j : Nat) (hj : j < l.length) : (cellsP l)[j * 2]? = some (I (l.getD j (0, 0)).1) ∧ (cellsP l)[j * 2 + 1]? = some (I (l.getD j (0, 0)).2) := by
  induction l generalizing j with
  | nil => simp at hj
  | cons f l ih =>
    have e : cellsP (f :: l) = I f.1 :: I f.2 :: cellsP l := rfl
    rw [e]
    cases j with
    | zero => exact ⟨rfl, rfl⟩
    | succ j =>
      have := ih j (by simpa using hj)
      rw [show (j + 1) * 2 = j * 2 + 1 + 1 by omega]
      simpa using this
theorem cellsP_one (l : List Kp) : ∀ u ∈ cellsP l, u.oneCell' = true := by
  intro u hu
  obtain ⟨x, _, hx⟩ := List.mem_flatMap.1 hu
  simp at hx
  rcases hx with rfl | rfl <;> rfl
theorem Kls.of {w : World} {v : Value} {l : List Kp} (h : w.ownsRow 0 71 2 v l.length (cellsP l)) : ∃ p cap, v = .slice p l.length cap ∧ Kls w p l.length l ∧ (∀ g o, p = some ⟨g, o, none⟩ → v.ownBlock = some g) := by
  rcases h.2 with ⟨e, q⟩ | ⟨g, cap, cur, e1, e2⟩
  · exact ⟨none, 0, by rw [e, q], ⟨rfl, fun h => by omega⟩, fun g o e => by cases e⟩
  · refine ⟨_, cap, e1, ⟨rfl, fun _ => ⟨g, 0, rfl, fun j hj => ?_⟩⟩, fun g' o e => by cases e; rw [e1]; rfl⟩
    subst e1
    have hz := cellsP_at l j hj
    rw [Nat.zero_add]
    exact ⟨owns_cell h _ _ hz.1, owns_cell h _ _ hz.2⟩
/-- Keeps in a row of one's own, none of it old. -/
structure OwK (w : World) (V : Value) (l : List Kp) (wr : World) : Prop where
  row : wr.ownsRow 0 71 2 V l.length (cellsP l)
  new : ∀ k, V.ownBlock = some k → w.heap.size ≤ k
  bel : Below w.heap.size w wr
theorem OwK.nil (w : World) : OwK w (.slice none 0 0) [] w := ⟨owns_nil _ _ _, (fun _ h => nomatch h), Below.refl _ _⟩
theorem wp_pushP {ops : Array Oper} {rest : List Oper} {o : Oper} {ac : Act} {Q : Exit → Act → World → Prop} {w wr : World} {V : Value} {l : List Kp} {x : Kp} (hgd : o.guard = none) (p q : Operand) (ho : o.op = .call { callee := .builtin .append, args := #[p, q], argTypes := #[33, 33] })
    (hp : ac.eval p = V) (hq : ac.eval q = .slice (some ⟨wr.heap.size, 0, none⟩) 1 1) (h : OwK w V l wr) (hs : l.length ≤ 1000000000)
    (hn : ∀ p c w', OwK w (.slice p (l.length + 1) c) (l ++ [x]) w' → wpList Try.prog ops Q rest (ac.put o.dst (.slice p (l.length + 1) c)) w') : wpList Try.prog ops Q (o :: rest) ac (wr.alloc (.cells #[I x.1, I x.2] 71)) := by
  refine push_own 33 71 _ 2 16 Try.underlying33 info71 rfl (by decide) hgd p q ho V l.length (cellsP l) hp wr h.row [I x.1, I x.2] rfl (by intro u hu; simp at hu; rcases hu with rfl | rfl <;> rfl) hq (by omega) (by omega) ?_
  intro pp cap w' r1 r2 r3
  refine hn pp cap w' ⟨by rw [List.length_append, cellsP_append]; exact r1, fun k hk => ?_, r2.below h.bel h.bel.size h.new⟩
  rcases r3 k hk with q | q
  · exact h.new k q
  · exact Nat.le_trans h.bel.size q
/-- The keeps of what is pending. -/
def nearv (l : List Kp) (m : Nat) : Nat → List Kp
  | 0 => []
  | k + 1 => nearv l m k ++ [((m : Int) - 1 - k, ((pkv (l.getD k (0, 0)).2 256 : Nat) : Int))]
theorem nearv_len (l : List Kp) (m k : Nat) : (nearv l m k).length = k := by
  induction k with
  | zero => rfl
  | succ k ih => simp [nearv, ih]
theorem near_any (a : Option Addr) (n cap : Nat) (l : List Kp) (m : Nat) (w : World) (hp : Kls w a n l) (hn : n ≤ 2000000) (hm : m ≤ 4096) (hq : ∀ x ∈ l, -9223372036854775808 ≤ x.2 ∧ x.2 ≤ 9223372036854775807) :
    Calls Try.prog 38 #[.slice a n cap, I m] w fun e w' => ∃ V, e = .returned V ∧ OwK w V (nearv l m (min l.length m)) w' := by
  have hN := hp.1
  subst hN
  have HP := hide hp
  have HQ := hide hq
  clear hp hq
  go_enter Try.func38, Try.ntmps38
  go_wp2
  go_loopw [5, 6] (fun V i wr => ∃ k : Nat, k ≤ l.length ∧ k ≤ m ∧ i = .int .i64 k ∧ OwK w V (nearv l m k) wr) (fun _ i _ => l.length - (Go.RowKit.intOf i).toNat)
  case atStart => exact ⟨0, by omega, by omega, rfl, OwK.nil w⟩
  case round =>
    obtain ⟨k, hk, hkm, rfl, ho⟩ := hrel
    have HO := hide ho
    obtain ⟨pv, cv, hpv⟩ := owns_form ho.row
    rw [nearv_len] at hpv
    subst hpv
    by_cases hlt : k < l.length
    · have hlt' : (k : Int) < (l.length : Int) := by omega
      by_cases hlm : k < m
      · have hlm' : (k : Int) < (m : Int) := by omega
        obtain ⟨g, o, rfl, hpl, q0, q1⟩ := ((unhide HP).below ho.bel).at hlt
        have hr := unhide HQ _ (mem_getD (z := (0, 0)) hlt)
        have HNx := hide (show nearv l m (k + 1) = nearv l m k ++ [((m : Int) - 1 - k, ((pkv (l.getD k (0, 0)).2 256 : Nat) : Int))] from rfl)
        have H1 := hide (fun W => pick_any (l.getD k (0, 0)).2 256 W (by omega) (by omega) hr.1 hr.2)
        generalize (l.getD k (0, 0)).2 = y at *
        generalize pkv y 256 = z at *
        clear ho hr q0
        go_wp2_with (first
          | (go_at_call 8; refine (unhide H1 _).mono ?_; rintro e w2 ⟨rfl, hw2⟩; rw [hw2]; clear hw2 w2)
          | (at_builtin; refine wp_pushP (x := ((m : Int) - 1 - k, (z : Int))) rfl (.tmp 18) (.tmp 30) rfl (by rfl) (by rfl) (unhide HO) (by rw [nearv_len]; omega) ?_; intro p3 c3 w3 hw3; rw [nearv_len] at hw3 ⊢; have HO3 := hide hw3; clear hw3)
          | fail)
        refine ⟨⟨k + 1, by omega, by omega, by go_num, by rw [unhide HNx]; exact unhide HO3⟩, ?_⟩
        simp [Go.RowKit.intOf]; omega
      · have hlm' : ¬ (k : Int) < (m : Int) := by omega
        have hlm2 : decide ((k : Int) < (m : Int)) = false := by simpa using hlm'
        have hke : k = min l.length m := by omega
        have HK := hide hke
        clear ho hke
        go_wp2
        go_ret
        exact ⟨_, rfl, by rw [← unhide HK]; exact unhide HO⟩
    · have hlt' : ¬ (k : Int) < (l.length : Int) := by omega
      have hlt2 : decide ((k : Int) < (l.length : Int)) = false := by simpa using hlt'
      have hke : k = min l.length m := by omega
      have HK := hide hke
      clear ho hke
      go_wp2
      go_ret
      exact ⟨_, rfl, by rw [← unhide HK]; exact unhide HO⟩
end Go.Proofs.Ytpelmacblglhoaa
namespace Go.Proofs.Ytpelmacblglhoaa
open Go.RowKit
set_option maxHeartbeats 8000000
set_option maxRecDepth 8000
theorem made71 (m : Nat) : (madeCells (Value.agg #[.int .i64 0, .int .i64 0]).cells (m * 2)).toList = cellsP (List.replicate m (0, 0)) := by
  have hz : (Value.agg #[Value.int .i64 0, Value.int .i64 0]).cells = #[Value.int .i64 0, Value.int .i64 0] := rfl
  rw [hz]
  apply List.ext_getElem?
  intro i
  by_cases hi : i < m * 2
  · have h1 : (madeCells #[Value.int .i64 0, Value.int .i64 0] (m * 2)).toList[i]? = some (I 0) := by
      unfold madeCells
      have : i % 2 = 0 ∨ i % 2 = 1 := by omega
      rcases this with q | q <;> simp [hi, q]
    rw [h1]
    have hc := cellsP_at (List.replicate m ((0 : Int), (0 : Int))) (i / 2) (by simp; omega)
    have hg : (List.replicate m ((0 : Int), (0 : Int))).getD (i / 2) (0, 0) = (0, 0) := by
      have : i / 2 < m := by omega
      simp [this]
    rw [hg] at hc
    have : i % 2 = 0 ∨ i % 2 = 1 := by omega
    rcases this with q | q
    · rw [show i = i / 2 * 2 by omega]; exact hc.1.symm
    · rw [show i = i / 2 * 2 + 1 by omega]; exact hc.2.symm
  · have h2 : (cellsP (List.replicate m ((0 : Int), (0 : Int))))[i]? = none := List.getElem?_eq_none (by rw [cellsP_len]; simp; omega)
    rw [h2]
    refine List.getElem?_eq_none ?_
    simp [madeCells]
    omega
theorem copy_keeps {w1 : World} {g n cap : Nat} {a : Option Addr} {l : List Kp} (hr : w1.ownsRow 0 71 2 (.slice (some ⟨g, 0, none⟩) (n + 8) (n + 8)) (n + 8) (cellsP (List.replicate (n + 8) (0, 0)))) (hk : Kls w1 a n l) (ty : TypeId) :
    ∃ w2, (Builtin.copy_ #[33, 33] ty #[.slice (some ⟨g, 0, none⟩) (n + 8) (n + 8), .slice a n cap]).run Try.prog w1 = .ok (goInt n) w2 ∧ w2.ownsRow 0 71 2 (.slice (some ⟨g, 0, none⟩) (n + 8) (n + 8)) (n + 8) (cellsP (l ++ List.replicate 8 (0, 0))) ∧ Only (fun k => k = g) w1 w2 := by
  have hN := hk.1
  subst hN
  obtain ⟨g', c', cur, e1, e2, e3, e4, e5, e6⟩ := owns_at hr (by omega)
  cases e1
  have hcur : cur.toList = cellsP (List.replicate (l.length + 8) (0, 0)) := by
    rw [← e6, List.take_of_length_le (by simp; omega)]
  cases a with
  | none =>
    have h0 : l.length = 0 := by
      rcases Nat.eq_zero_or_pos l.length with q | q
      · exact q
      · obtain ⟨p, o, e, _⟩ := hk.2 q
        cases e
    have hL : l = [] := List.eq_nil_of_length_eq_zero h0
    subst hL
    refine ⟨w1, ?_, hr, Only.refl _ _⟩
    obtain ⟨i0, hi, hz0, hz1, hz2⟩ := info_parts info71
    simp [Builtin.copy_, run_underlying Try.underlying33, Builtin.lenOf, Builtin.firstCells, sizeOf, typeInfo, hi, storeCells]
  | some ad =>
    have hsrc : ∀ j v, (cellsP l)[j]? = some v → w1.cell? (ad.add j) = some v := by
      intro j v hj
      have hjl : j < l.length * 2 := by have := (List.getElem?_eq_some_iff.1 hj).1; rw [cellsP_len] at this; exact this
      obtain ⟨p, o, e, hc⟩ := hk.2 (by omega)
      cases e
      rw [add_off]
      have h2 := hc (j / 2) (by omega)
      have h3 := cellsP_at l (j / 2) (by omega)
      have : j % 2 = 0 ∨ j % 2 = 1 := by omega
      rcases this with q | q
      · rw [show j = j / 2 * 2 by omega] at hj ⊢
        rw [h3.1] at hj
        cases hj
        exact h2.1
      · rw [show j = j / 2 * 2 + 1 by omega] at hj ⊢
        rw [h3.2] at hj
        cases hj
        rw [← Nat.add_assoc]
        exact h2.2
    have hrun := run_copyk w1 33 71 ty _ 2 16 Try.underlying33 info71 g 0 (l.length + 8) (l.length + 8) ad l.length cap cur (cellsP l) l.length (by show _ = min _ _; omega) e2 (cellsP_len l) hsrc (by rw [cellsP_len]; omega) (cellsP_one l)
    refine ⟨_, hrun, ?_, (setRow_only w1 g _).mono (fun k _ q => q)⟩
    have hrow : (cur.toList.take 0 ++ cellsP l ++ cur.toList.drop (0 + (cellsP l).length)) = cellsP (l ++ List.replicate 8 (0, 0)) := by
      rw [hcur, List.take_zero, List.nil_append, Nat.zero_add, cellsP_append]
      congr 1
      rw [cellsP_len, ← List.replicate_append_replicate, cellsP_append, List.drop_append, List.drop_of_length_le (by rw [cellsP_len]; simp), cellsP_len]
      simp
    rw [hrow]
    refine ⟨by rw [cellsP_len]; simp, .inr ⟨g, l.length + 8, _, rfl, Nat.zero_le _, setRow_heap w1 g cur _ 71 _ e2, Nat.le_refl _, e4, by rw [List.size_toArray, cellsP_len]; simp, ?_⟩⟩
    rw [List.take_of_length_le (by rw [cellsP_len]; simp)]
theorem ll_at (l : List Kp) (i : Nat) : (l ++ List.replicate 8 ((0 : Int), (0 : Int))).getD i (0, 0) = l.getD i (0, 0) := by
  simp only [List.getD_eq_getElem?_getD]
  by_cases h : i < l.length
  · rw [List.getElem?_append_left h]
  · rw [List.getElem?_append_right (by omega), List.getElem?_eq_none (l := l) (by omega), List.getElem?_replicate]
    split <;> rfl
theorem crash_side {D X : Nat} {d : Ds} {r : Rd} {vw vl ul ui up : Value} {w : World} (hd : DAt D d vw vl w) (hr : RAt X r ul ui up w) (ok : Ok d) (rel : Rel d r) (a : Option Addr) (n cap : Nat) (l : List Kp) (hp : Kls w a n l) (hn : n ≤ 2000000)
    (hka : ∀ p o, a = some ⟨p, o, none⟩ → 0 < n → ¬ Of D vw vl p ∧ ¬ OfR X ul ui up p) (hap : ∀ k, Of D vw vl k → ¬ OfR X ul ui up k) :
    Calls Try.prog 37 #[.agg #[ptr D, ptr X], .slice a n cap] w fun e w' => e = .returned (.bool true) ∧ ∃ vw', DAt D (d.crash l) vw' vl w' ∧ RAt X (r.crash l) ul ui up w' ∧ Only (fun k => Of D vw vl k ∨ OfR X ul ui up k) w w' ∧ (∀ k, vw'.ownBlock = some k → vw.ownBlock = some k) := by
  have hz := heap_alloc_new w (.cells #[ptr D, ptr X] 40)
  have ba := (Below.refl w.heap.size w).alloc (Nat.le_refl _) (.cells #[ptr D, ptr X] 40)
  have HA := hide (And.intro ba (And.intro hz (And.intro hd hr)))
  have HP := hide hp
  have HK := hide (And.intro hka hap)
  have HOk := hide (And.intro ok rel)
  have hDl := hd.lt
  have hXl := hr.lt
  have HOl := hide (And.intro hd.old hr.old)
  clear hz ba hd hr hp hka hap ok rel
  go_enter Try.func37, Try.ntmps37
  go_wp2_with (first
    | (refine make_own 33 71 _ 2 16 Try.underlying33 info71 rfl (.tmp 12) (.tmp 12) rfl _ _ (n + 8) (by rfl) (by rfl) (by push_cast; rfl) (by push_cast; rfl) (by omega) (by omega) ?_
       intro w1 ho1 b1 l1
       rw [made71, show (w.alloc (.cells #[ptr D, ptr X] 40)).heap.size = w.heap.size + 1 by simp] at ho1
       obtain ⟨w2, hr2, ho2, o2⟩ := copy_keeps (cap := cap) ho1 (((unhide HP).below (unhide HA).1).below b1) 3
       have hb01 : Below w.heap.size w w1 := (unhide HA).1.trans (b1.mono (unhide HA).1.size)
       have HW := hide (And.intro hb01 (And.intro ho2 (And.intro o2 ((b1.block _ (lt_of_row (unhide HA).2.1)).trans (unhide HA).2.1))))
       clear ho1 b1 ho2 o2 hb01)
    | (refine wp_copy_run rfl (.tmp 14) (.tmp 15) rfl _ _ (by rfl) (by rfl) _ _ hr2 ?_)
    | fail)
  clear hr2
  obtain ⟨hb01, ho2, o2, hT⟩ := unhide HW
  obtain ⟨-, -, hd, hr⟩ := unhide HA
  obtain ⟨hka, hap⟩ := unhide HK
  obtain ⟨ok, rel⟩ := unhide HOk
  obtain ⟨g, hgs⟩ : ∃ g, g = w.heap.size + 1 := ⟨_, rfl⟩
  rw [← hgs] at ho2 o2 ⊢
  have b02 : Below w.heap.size w w2 := o2.below hb01 hb01.size (fun k q => by omega)
  have hT2 : w2.heap[w.heap.size]? = some (.cells #[ptr D, ptr X] 40 (0, 0)) := (o2.block _ (lt_of_row hT) (by omega)).trans hT
  have hd2 := hd.below b02
  have hr2 := hr.below b02
  have hkl : Kls w2 (some ⟨g, 0, none⟩) n l := by
    refine ⟨(unhide HP).1, fun h0 => ⟨g, 0, rfl, fun j hj => ?_⟩⟩
    have hN := (unhide HP).1
    have hz := cellsP_at (l ++ List.replicate 8 (0, 0)) j (by simp; omega)
    rw [ll_at] at hz
    rw [Nat.zero_add]
    exact ⟨owns_cell ho2 _ _ hz.1, owns_cell ho2 _ _ hz.2⟩
  have HKl2 := hide ((unhide HP).below b02)
  have H1 := hide (fun (W : World) (b : Below w2.heap.size w2 W) => crash_any (hd2.below b) ok (some ⟨g, 0, none⟩) n (n + 8) l (hkl.below b) (by omega) (fun st h i => stps_small _ _ _ h i))
  have t0 : w2.cell? ⟨w.heap.size, 0, none⟩ = some (ptr D) := cell_of_row _ _ 0 _ 40 (0, 0) hT2
  have hTl := lt_of_row hT2
  have HX := hide (And.intro b02 (And.intro hT2 (And.intro hd2 (And.intro hr2 (And.intro ho2 hgs)))))
  have hnc : (n : Int) ≤ (n : Int) + 8 := by omega
  clear hb01 o2 hT hd hr hka hap ok rel b02 hT2 hd2 hr2 hkl ho2 HW HA HP
  clear hgs
  go_region_with (refine (unhide H1 _ (Below.refl _ _).drew).mono ?_; rintro e w3 ⟨rfl, vw', h3, o3, n3⟩; have HC := hide (And.intro h3 (And.intro o3 n3)); clear h3 o3 n3)
  obtain ⟨h3, o3, n3⟩ := unhide HC
  obtain ⟨b02, hT2, hd2, hr2, ho2, hgs⟩ := unhide HX
  obtain ⟨hka, hap⟩ := unhide HK
  obtain ⟨ok, rel⟩ := unhide HOk
  have hq3 : ∀ k, (k = D ∨ vl.ownBlock = some k) → Of D vw vl k := fun k q => by rcases q with q | q; exact .inl q; exact .inr (.inr q)
  have ol : ∀ k, Of D vw vl k → k < w.heap.size := fun k q => by
    have h1 := hd2.old k q
    rcases q with rfl | q | q
    · exact hDl
    · exact (unhide HOl).1 k (.inr (.inl q))
    · exact (unhide HOl).1 k (.inr (.inr q))
  have or_ : ∀ k, OfR X ul ui up k → k < w.heap.size := (unhide HOl).2
  have o3' : Only (fun k => k = D ∨ vl.ownBlock = some k) w2 w3 := ⟨o3.os, o3.tape, o3.output, o3.size, o3.block⟩
  have hr3 := hr2.only o3' (fun k hk q => hap k (hq3 k q) hk)
  have hT3 : w3.heap[w.heap.size]? = some (.cells #[ptr D, ptr X] 40 (0, 0)) := (o3'.block _ (lt_of_row hT2) (fun q => by have := ol _ (hq3 _ q); omega)).trans hT2
  have ho3 := owns_only ho2 o3' (fun k hk q => by have e : g = k := Option.some.inj hk; have := ol _ (hq3 _ q); omega)
  have hk3 := (unhide HKl2).only o3' (fun p o e h0 q => (hka p o e h0).1 (hq3 p q))
  have H2 := hide (rCrash_any hr3 (by rw [rel.l]; exact ok.len.1) (by rw [rel.l]; exact ok.len.2) (by rw [rel.l]; exact ok.sz) (by rw [rel.pend ok]; exact fun x hx => (ok.lt x hx).2) cap hk3 (by omega) (fun p o e h0 => (hka p o e h0).2))
  have t1 : w3.cell? ⟨w.heap.size, 1, none⟩ = some (ptr X) := cell_of_row _ _ 1 _ 40 (0, 0) hT3
  have hTl3 := lt_of_row hT3
  have HY := hide (And.intro h3 (And.intro o3' (And.intro n3 (And.intro hT3 (And.intro ho3 (And.intro hk3 (And.intro hq3 (And.intro ol or_))))))))
  clear h3 o3 n3 b02 hT2 hd2 hr2 ho2 hgs hka hap ok rel hq3 ol or_ o3' hr3 hT3 ho3 hk3 HC
  rw [(unhide HOk).2.crashv (unhide HOk).1] at H2
  generalize crashv d l = cv at *
  go_wp2_with fail
  refine (unhide H2).mono ?_
  rintro e w4 ⟨rfl, hr4, o4⟩
  obtain ⟨h3, o3, n3, hT3, ho3, hk3, hq3, ol, or_⟩ := unhide HY
  obtain ⟨b02, hT2, hd2, hr2, ho2, hgs⟩ := unhide HX
  obtain ⟨hka, hap⟩ := unhide HK
  have hsub : ∀ k, Of D vw' vl k → Of D vw vl k := fun k q => by
    rcases q with q | q | q
    · exact .inl q
    · exact .inr (.inl (n3 k q))
    · exact .inr (.inr q)
  have h4 := h3.only o4 (fun k hk q => hap k (hsub k hk) q)
  have ho4 := owns_only ho3 o4 (fun k hk q => by have e : g = k := Option.some.inj hk; have := or_ _ q; omega)
  have hk4 := hk3.only o4 (fun p o e h0 q => (hka p o e h0).2 q)
  have HF := hide (show ∃ vw', DAt D (d.crash l) vw' vl w4 ∧ RAt X (r.crash l) ul ui up w4 ∧ Only (fun k => Of D vw vl k ∨ OfR X ul ui up k) w w4 ∧ (∀ k, vw'.ownBlock = some k → vw.ownBlock = some k) from
    ⟨vw', h4, hr4, ((Only.of_below (P := fun k => Of D vw vl k ∨ OfR X ul ui up k) b02).trans o3 (fun k _ q => .inl (hq3 k q))).trans o4 (fun k _ q => .inr q), n3⟩)
  have HO4 := hide (And.intro ho4 hk4)
  have hN := hk4.1
  have HN := hide hN
  clear h3 o3 n3 hT3 ho3 hk3 hq3 ol or_ b02 hT2 hd2 hr2 ho2 hgs hka hap hsub h4 ho4 hk4 hr4 o4 HX HY hN t0 t1
  go_wp2
  go_loopw [8] (fun x wr => ∃ i : Nat, i ≤ n + 8 ∧ x = .int .i64 i ∧ Below w4.heap.size w4 wr) (fun x _ => n + 8 - (Go.RowKit.intOf x).toNat)
  case atStart => exact ⟨0, by omega, rfl, Below.refl _ _⟩
  case round =>
    obtain ⟨i, hi, rfl, hb⟩ := hrel
    have HB := hide hb
    by_cases hlt : i < n + 8
    · have hlt' : (i : Int) < (n : Int) + 8 := by omega
      have hz := cellsP_at (l ++ List.replicate 8 (0, 0)) i (by have := unhide HN; simp; omega)
      rw [ll_at] at hz
      have hrow := owns_below (unhide HO4).1 hb
      have c0 := owns_cell hrow _ _ hz.1
      have c1 := owns_cell hrow _ _ hz.2
      have hgl := blk_lt c0
      have hal := heap_alloc_new wr (.cells #[I 0, I 0] 71)
      have ba : Below wr.heap.size wr (wr.alloc (.cells #[I 0, I 0] 71)) := (Below.refl wr.heap.size wr).alloc (Nat.le_refl _) _
      have hba : Below w4.heap.size w4 (wr.alloc (.cells #[I 0, I 0] 71)) := hb.trans (ba.mono hb.size)
      have v0 : (wr.alloc (.cells #[I 0, I 0] 71)).cell? ⟨wr.heap.size, 0, none⟩ = some (I 0) := cell_of_row _ _ 0 _ 71 (0, 0) hal
      have v1 : (wr.alloc (.cells #[I 0, I 0] 71)).cell? ⟨wr.heap.size, 1, none⟩ = some (I 0) := cell_of_row _ _ 1 _ 71 (0, 0) hal
      have f0 := frz hal 0
      have f1 := frz hal 1
      have d0 := (ba.cell (p := ⟨g, i * 2, none⟩) hgl).trans c0
      have d1 := (ba.cell (p := ⟨g, i * 2 + 1, none⟩) hgl).trans c1
      have hgl2 := blk_lt d0
      have hal2 := lt_of_row hal
      by_cases hin : i < n
      · have hin' : (i : Int) < (n : Int) := by omega
        obtain ⟨p, o, ea, hpl, q0, q1⟩ := ((unhide HO4).2.below hba).at hin
        generalize l.getD i (0, 0) = x at *
        obtain ⟨x1, x2⟩ := x
        simp only at c0 c1 d0 d1 q0 q1
        have hrb := heap_setCell_same (wr.alloc (.cells #[I 0, I 0] 71)) wr.heap.size 0 _ 71 (I x1) hal
        have hrc := heap_setCell_same _ wr.heap.size 1 _ 71 (I x2) hrb
        have hne : g ≠ wr.heap.size := by omega
        have e0 : (((wr.alloc (.cells #[I 0, I 0] 71)).setCell ⟨wr.heap.size, 0, none⟩ (I x1)).setCell ⟨wr.heap.size, 1, none⟩ (I x2)).cell? ⟨wr.heap.size, 0, none⟩ = some (I x1) := cell_of_row _ _ 0 _ 71 (0, 0) hrc
        have e1 : (((wr.alloc (.cells #[I 0, I 0] 71)).setCell ⟨wr.heap.size, 0, none⟩ (I x1)).setCell ⟨wr.heap.size, 1, none⟩ (I x2)).cell? ⟨wr.heap.size, 1, none⟩ = some (I x2) := cell_of_row _ _ 1 _ 71 (0, 0) hrc
        have hoth := (heap_setCell_other ((wr.alloc (.cells #[I 0, I 0] 71)).setCell ⟨wr.heap.size, 0, none⟩ (I x1)) ⟨wr.heap.size, 1, none⟩ g (I x2) hne).trans (heap_setCell_other (wr.alloc (.cells #[I 0, I 0] 71)) ⟨wr.heap.size, 0, none⟩ g (I x1) hne)
        have g0 := (World.cell?_of_block (a := ⟨g, i * 2, none⟩) hoth).trans d0
        have g1 := (World.cell?_of_block (a := ⟨g, i * 2 + 1, none⟩) hoth).trans d1
        have hglb := blk_lt g0
        have halb := lt_of_row hrc
        have HN2 := hide (below_drew (hb.trans (((Below.refl wr.heap.size wr).alloc (Nat.le_refl _) (.cells #[I x1, I x2] 71)).mono hb.size)))
        subst ea
        clear hz hrow hal ba hba hb hrb hrc hoth hne
        go_wp2
        go_region
        go_wp2
        refine ⟨⟨i + 1, by omega, by go_num, unhide HN2⟩, ?_⟩
        simp [Go.RowKit.intOf]; omega
      · have hin' : ¬ (i : Int) < (n : Int) := by omega
        have hx0 : l.getD i (0, 0) = (0, 0) := by
          have := unhide HN
          rw [List.getD_eq_getElem?_getD, List.getElem?_eq_none (by omega)]
          rfl
        rw [hx0] at c0 c1 d0 d1
        simp only at c0 c1 d0 d1
        have HN2 := hide (below_drew hba)
        clear hz hrow hal ba hba hb hx0
        go_wp2
        go_region
        go_wp2
        refine ⟨⟨i + 1, by omega, by go_num, unhide HN2⟩, ?_⟩
        simp [Go.RowKit.intOf]; omega
    · have hlt' : ¬ (i : Int) < (n : Int) + 8 := by omega
      clear hb
      go_wp2
      go_ret
      refine ⟨by first | rfl | simp, ?_⟩
      obtain ⟨vw', a, b, c, e⟩ := unhide HF
      have hbe := unhide HB
      exact ⟨vw', a.below hbe, b.below hbe, c.trans (Only.of_below (P := fun _ => False) hbe) (fun _ _ q => q.elim), e⟩
end Go.Proofs.Ytpelmacblglhoaa
