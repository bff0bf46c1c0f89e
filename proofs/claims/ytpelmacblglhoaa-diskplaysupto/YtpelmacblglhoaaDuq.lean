import Derived.Test.YtpelmacblglhoaaDup
import Derived.Test.YtpelmacblglhoaaDum
import Derived.Deep.RegionLaw
namespace Go.Proofs.Ytpelmacblglhoaa
open Go.RowKit
set_option maxHeartbeats 4000000
set_option maxRecDepth 8000
/-- append(nil, V...): all of it is new. -/
theorem app_nil3 (T e ty : TypeId) (z : Value) (sz bys : Nat) (ht : Try.prog.underlying T = some (.slice e)) (hinfo : (Try.prog.info? e).map (fun i => (i.zero, i.size, i.bytes)) = some (some z, sz, bys)) (hzs : z.cells.size = sz) (hsz : 0 < sz) (hby : bys ≤ 100)
    (V : Value) (n : Nat) (xs : List Value) (w : World) (hV : w.ownsRow 0 e sz V n xs) (h1 : ∀ u ∈ xs, u.oneCell' = true) (hn : n ≤ 1000000) :
    ∃ p2 c2 w', (Builtin.append_ #[T, T] ty #[.slice none 0 0, V]).run Try.prog w = .ok (.slice p2 n c2) w' ∧ Below w.heap.size w w' ∧ w'.ownsRow 0 e sz (.slice p2 n c2) n xs ∧ (∀ k, (Value.slice p2 n c2).ownBlock = some k → k = w.heap.size) := by
  obtain ⟨i0, hi, hz0, hz1, hz2⟩ := info_parts hinfo
  have hbb : n * bys ≤ 1000000 * 100 := Nat.mul_le_mul hn hby
  rcases hV.2 with ⟨rfl, rfl⟩ | ⟨g, cap, cur, rfl, _⟩
  · have hx : xs = [] := List.eq_nil_of_length_eq_zero (by have := hV.1; omega)
    subst hx
    exact ⟨none, 0, w, run_append_owned_none (P := Try.prog) w 0 T ty e i0 sz ht hi (.slice none 0 0) 0 [] (owns_nil _ _ _), Below.refl _ _, owns_nil _ _ _, fun k hk => by cases hk⟩
  · obtain ⟨v', w', hr, h2, h3, _, h4⟩ := run_append_own_at (P := Try.prog) w 0 T ty e i0 _ sz bys ht hi hz0 hz1 hz2 hzs hsz (.slice none 0 0) 0 [] (owns_nil _ _ _) ⟨g, 0, none⟩ n cap xs hV.1 (World.ownsRow.cells hV (g := g) rfl) h1 (by unfold maxLen; omega) (by rw [Nat.zero_add]; omega) (Nat.zero_le _)
    rw [Nat.zero_add] at h2
    obtain ⟨q, c, rfl⟩ := owns_form h2
    refine ⟨q, c, w', hr, (Below.refl _ _).grown h3 (Nat.le_refl _) (fun k e => by cases e), by simpa using h2, fun k hk => ?_⟩
    rcases h4 with a | a
    · rw [a] at hk; cases hk
    · rw [a] at hk; cases hk; rfl
/-- append, as one step of a region that draws. -/
theorem step_app_run {P : Program} {ops : Array Oper} {o : Oper} {a : Act} {w : World} {K : Act → World → Prop} {Q : Exit → Act → World → Prop} {E : Prop}
    (hg : o.guard = none) (s x : Operand) (t : TypeId) (hop : o.op = Op.call { callee := Callee.builtin Builtin.append, args := #[s, x], argTypes := #[t, t] })
    (v y : Value) (hs : a.eval s = v) (hx : a.eval x = y) (r : Value) (w' : World) (hrun : (Builtin.append_ #[t, t] o.type #[v, y]).run P w = .ok r w') (hK : K (a.put o.dst r) w') :
    if Region.wanted o (yielded ops a.tmps) = true then Oper.wp P o a w K Q else E := by
  have hw : Region.wanted o (yielded ops a.tmps) = true := by simp [Region.wanted, hg]
  rw [if_pos hw]
  unfold Oper.wp
  simp [execOp, hop, resolve, invoke, builtin, hs, hx, hrun, Result.andThen]
  exact hK
section
variable {w0 w : World} {K Z : Nat} {s : Ws}
theorem blocks_wi (h : WI w0 K Z none s w) {V : Value} {l : List Bs} (hV : w.ownsRow 0 9 1 V l.length (l.map S)) (hVt : ∀ k, V.ownBlock = some k → (s.tag k).1 = 7) (hl : l.length ≤ 100000) (hroom : s.f1 + s.N1 + 1 ≤ 2 * K) (hK : K ≤ 10000000) :
    Calls Try.prog 58 #[ptr Z, V] w fun e w' => e = .returned (.tuple #[]) ∧ ∃ s', WI w0 K Z none s' w' ∧ s'.sd = s.sd ∧ s'.f1 + s'.N1 + s'.f2 + s'.N2 = s.f1 + s.N1 + s.f2 + s.N2 + 1 ∧ s'.f1 + s'.N1 = s.f1 + s.N1 + 1 ∧ (∀ k, k < w.heap.size → (s.tag k).1 ≠ 0 → (s'.tag k).1 ≠ 0 ∧ w'.heap[k]? = w.heap[k]?) ∧ s'.hn = s.hn := by
  obtain ⟨pv, cv, rfl⟩ := owns_form hV
  have hZ := h.lt
  have z1 : w.cell? ⟨Z, 1, none⟩ = some (.slice s.pf1 s.N1 s.cf1) := h.cell 1
  have H := hide h
  have HV := hide hV
  have HVt := hide hVt
  have hn1 := h.n1
  clear h hV hVt
  go_enter Try.func58, Try.ntmps58
  go_wp2_with (first
    | (at_builtin; refine push_own 26 28 _ 1 24 Try.underlying26 info28 rfl (by decide) rfl (.tmp 8) (.tmp 10) rfl (.slice s.pf1 s.N1 s.cf1) s.N1 ((List.range s.N1).map s.vs1) (by rfl) w (unhide H).b1.rf [.slice pv l.length cv] rfl (by intro u hu; obtain rfl := List.mem_singleton.1 hu; rfl) (by rfl) (by omega) (by omega) ?_
       intro p5 c5 w5 r1 r2 r3
       have hZ5 : w5.heap[Z]? = some (.cells s.cs 30 (0, 0)) := (r2.block Z hZ (fun q => by
         have a := (unhide H).b1.tf Z q
         rw [(unhide H).tz] at a
         exact absurd a (by decide))).trans (unhide H).blk
       have z5 : w5.cell? ⟨Z, 1, none⟩ = some (.slice s.pf1 s.N1 s.cf1) := cell_of_row w5 Z 1 _ 30 (0, 0) hZ5
       have fz5 := frz hZ5 1
       have hZl5 := lt_of_row hZ5
       have HR := hide (And.intro r1 (And.intro r2 (And.intro r3 hZ5)))
       clear r1 r2 r3 hZ5)
    | fail)
  obtain ⟨r1, r2, r3, hZ5⟩ := unhide HR
  generalize hW1 : w5.setCell ⟨Z, 1, none⟩ (.slice p5 (s.N1 + 1) c5) = W1
  have b1 : W1.heap[Z]? = some (.cells (s.cs.setIfInBounds 1 (.slice p5 (s.N1 + 1) c5)) 30 (0, 0)) := by rw [← hW1]; exact heap_setCell_same w5 Z 1 _ 30 _ hZ5
  have o1 : Only (fun k => k = Z ∨ (Value.slice s.pf1 s.N1 s.cf1).ownBlock = some k ∨ (Value.slice s.pw1 s.N1 s.cw1).ownBlock = some k) w W1 := by
    rw [← hW1]
    exact (r2.mono (fun k _ q => .inr (.inl q))).put ⟨Z, 1, none⟩ _ (.inl (.inl rfl))
  have tne : ∀ k a b, (unhide H).tz = (unhide H).tz → s.tag k = (a, b) → ((a, b) : Tg) ≠ (0, 0) → k ≠ Z := fun k a b _ e n q => n (by rw [← e, q]; exact (unhide H).tz)
  have rf1 : W1.ownsRow 0 28 1 (.slice p5 (s.N1 + 1) c5) (s.N1 + 1) ((List.range s.N1).map s.vs1 ++ [.slice pv l.length cv]) := by
    rw [← hW1]
    refine owns_only r1 (Only.setCell w5 ⟨Z, 1, none⟩ _) (fun k hk q => ?_)
    have q' : k = Z := q
    rcases r3 k hk with a | a
    · exact tne k _ _ rfl ((unhide H).b1.tf k a) (by decide) q'
    · omega
  have hq1 : ∀ k, (Value.slice s.pf1 s.N1 s.cf1).ownBlock = some k → s.tag k = (0, 1) := (unhide H).b1.tf
  have rw1 : W1.ownsRow 0 28 1 (.slice s.pw1 s.N1 s.cw1) s.N1 ((List.range s.N1).map s.ws1) := by
    refine owns_same (unhide H).u1.rw_ (fun k hk => ?_)
    have e := (unhide H).u1.tw k hk
    have hkl := owns_blk (unhide H).u1.rw_ k hk
    rw [← hW1, heap_setCell_other _ _ _ _ (tne k _ _ rfl e (by decide))]
    exact r2.block k hkl (fun q => by have a := hq1 k q; rw [e] at a; exact absurd a (by decide))
  have rv1 : W1.ownsRow 0 9 1 (.slice pv l.length cv) l.length (l.map S) := by
    refine owns_same (unhide HV) (fun k hk => ?_)
    have e := unhide HVt k hk
    have hkl := owns_blk (unhide HV) k hk
    rw [← hW1, heap_setCell_other _ _ _ _ (fun q => by have q' : k = Z := q; rw [q', (unhide H).tz] at e; simp at e)]
    exact r2.block k hkl (fun q => by have a := hq1 k q; rw [a] at e; simp at e)
  have HR3 := hide r3
  clear r1 r2 r3 hZ5 HR tne
  have dr := (Below.refl W1.heap.size W1).drew
  obtain ⟨p2, c2, w6, hr6, b6, rv6, hn6⟩ := app_nil3 28 9 28 _ 1 16 Try.underlying28 info9 rfl (by decide) (by decide) _ _ _ W1.drew (owns_below rv1 dr) (by intro u hu; obtain ⟨x, _, rfl⟩ := List.mem_map.1 hu; rfl) (by omega)
  obtain ⟨p7, c7, w7, hr7, rw7, o7, hn7⟩ := app_own 26 28 26 _ 1 24 Try.underlying26 info28 rfl (by decide) (.slice s.pw1 s.N1 s.cw1) s.N1 ((List.range s.N1).map s.ws1) w6 (owns_below (owns_below rw1 dr) b6) [.slice p2 l.length c2] rfl (by intro u hu; obtain rfl := List.mem_singleton.1 hu; rfl) (by omega) (by omega)
  have b16 : Below W1.heap.size W1 w6 := dr.trans (b6.mono (Nat.le_refl _))
  have bZ6 := (b16.block Z (lt_of_row b1)).trans b1
  have bZ7 : w7.heap[Z]? = some (.cells (s.cs.setIfInBounds 1 (.slice p5 (s.N1 + 1) c5)) 30 (0, 0)) := (o7.block Z (lt_of_row bZ6) (fun q => by
    have a := (unhide H).u1.tw Z q
    rw [(unhide H).tz] at a
    exact absurd a (by decide))).trans bZ6
  have x1 : W1.cell? ⟨Z, 2, none⟩ = some (.slice s.pw1 s.N1 s.cw1) := cell_of_row _ Z 2 _ 30 (0, 0) b1
  have x6 : w6.cell? ⟨Z, 2, none⟩ = some (.slice s.pw1 s.N1 s.cw1) := cell_of_row _ Z 2 _ 30 (0, 0) bZ6
  have bZ6a : (w6.alloc (.cells #[.slice p2 l.length c2] 28)).heap[Z]? = _ := (heap_alloc_old _ _ (lt_of_row bZ6)).trans bZ6
  have x6a : (w6.alloc (.cells #[.slice p2 l.length c2] 28)).cell? ⟨Z, 2, none⟩ = some (.slice s.pw1 s.N1 s.cw1) := cell_of_row _ Z 2 _ 30 (0, 0) bZ6a
  have x7 : w7.cell? ⟨Z, 2, none⟩ = some (.slice s.pw1 s.N1 s.cw1) := cell_of_row _ Z 2 _ 30 (0, 0) bZ7
  have f7 := frz bZ7 2
  have l1 := lt_of_row b1
  have l6 := lt_of_row bZ6
  have l7 := lt_of_row bZ7
  have l6a := lt_of_row bZ6a
  have HO := hide (And.intro o1 (And.intro rf1 (And.intro b16 (And.intro o7 (And.intro rw7 (And.intro rv6 (And.intro hn6 (And.intro hn7 bZ7))))))))
  clear o1 rf1 rw1 rv1 dr b6 rv6 hn6 rw7 o7 hn7 b16 bZ6 bZ7 bZ6a b1 hq1
  go_region_law (first
    | refine step_app_run rfl (.const (.slice none 0 0)) (.tmp 19) 28 rfl (.slice none 0 0) (.slice pv l.length cv) (by rfl) (by rfl) (.slice p2 l.length c2) w6 hr6 ?_
    | refine step_app_run rfl (.tmp 18) (.tmp 21) 26 rfl (.slice s.pw1 s.N1 s.cw1) (.slice (some ⟨w6.heap.size, 0, none⟩) 1 1) (by rfl) (by rfl) (.slice p7 (s.N1 + 1) c7) w7 hr7 ?_)
  all_goals go_wp2
  all_goals refine bodyPost_end (results_none rfl _ _ _) rfl ?_
  all_goals
    refine ⟨rfl, ?_⟩
    obtain ⟨o1, rf1, b16, o7, rw7, rv6, hn6, hn7, bZ7⟩ := unhide HO
    have hh := unhide H
    have hwk : ∀ k, (Value.slice s.pw1 s.N1 s.cw1).ownBlock = some k → k < w.heap.size ∧ s.tag k = (0, 2) := fun k hk => ⟨owns_blk hh.u1.rw_ k hk, hh.u1.tw k hk⟩
    have s1 := o1.size
    have s2 := b16.size
    have oc := Only.setCell w7 ⟨Z, 2, none⟩ (.slice p7 (s.N1 + 1) c7)
    have hfk : ∀ k, (Value.slice p5 (s.N1 + 1) c5).ownBlock = some k → (Value.slice s.pf1 s.N1 s.cf1).ownBlock = some k ∨ (w.heap.size ≤ k ∧ k < W1.heap.size) := fun k hk => by
      rcases unhide HR3 k hk with a | a
      · exact .inl a
      · exact .inr ⟨a, owns_blk rf1 k hk⟩
    have hfw : ∀ k, (Value.slice p5 (s.N1 + 1) c5).ownBlock = some k → (Value.slice s.pw1 s.N1 s.cw1).ownBlock ≠ some k ∧ k ≠ Z := fun k hk => by
      rcases hfk k hk with a | a
      · have e := hh.b1.tf k a
        exact ⟨fun q => by have := (hwk k q).2; rw [e] at this; exact absurd this (by decide), fun q => by rw [q, hh.tz] at e; exact absurd e (by decide)⟩
      · exact ⟨fun q => by have := (hwk k q).1; omega, fun q => by omega⟩
    have hoA := (((o1.trans (Only.of_below (P := fun _ => False) b16) (fun _ _ q => q.elim)).trans o7 (fun _ _ q => .inr (.inr q))).put ⟨Z, 2, none⟩ (.slice p7 (s.N1 + 1) c7) (.inl (.inl rfl)))
    obtain ⟨tg', htg, hwi⟩ := hh.add1 (V := .slice pv l.length cv) (V2 := .slice p2 l.length c2) (m1 := W1.heap.size) (m2 := w6.heap.size) (pf' := p5) (cf' := c5) (pw' := p7) (cw' := c7) (w' := w7.setCell ⟨Z, 2, none⟩ (.slice p7 (s.N1 + 1) c7)) (unhide HV) (unhide HVt) hl hroom
      hoA
      (heap_setCell_same w7 Z 2 _ 30 _ bZ7)
      (owns_only (owns_only (owns_below rf1 b16) o7 (fun k hk q => (hfw k hk).1 q)) oc (fun k hk q => (hfw k hk).2 q))
      (owns_only rw7 oc (fun k hk q => by
        have q' : k = Z := q
        rcases hn7 k hk with a | a
        · have e := (hwk k a).2
          rw [q', hh.tz] at e
          exact absurd e (by decide)
        · omega))
      hfk hn7 s1 s2 ⟨p2, c2, rfl, fun hn => by
        obtain ⟨g, cg, cur, eg, hg, _⟩ := owns_at rv6 hn
        have hgk := hn6 g (by rw [eg]; rfl)
        have hgk' : g = W1.heap.size := hgk
        have hg6 := owns_blk rv6 g (by rw [eg]; rfl)
        have h7 := o7.block g hg6 (fun q => by have := (hwk g q).1; omega)
        have h8 : (w7.setCell ⟨Z, 2, none⟩ (.slice p7 (s.N1 + 1) c7)).heap[g]? = w7.heap[g]? := heap_setCell_other _ _ _ _ (by show g ≠ Z; omega)
        cases eg
        refine ⟨g, rfl, by omega, hg6, Nat.lt_of_lt_of_le hg6 (Nat.le_trans o7.size oc.size), fun j u hu => ?_⟩
        rw [World.cell?_of_block (h8.trans h7)]
        exact owns_cell rv6 j u hu⟩
    refine ⟨_, hwi, rfl, by simp only; omega, by simp only; omega, fun k hk h0 => ⟨htg k hk h0, hoA.block k hk ?_⟩, rfl⟩
    rintro (a | a | a)
    · rw [a, hh.tz] at h0; exact h0 rfl
    · rw [hh.b1.tf k a] at h0; exact h0 rfl
    · rw [hh.u1.tw k a] at h0; exact h0 rfl
theorem writes_wi (h : WI w0 K Z none s w) {V : Value} {l : List Wr} (hV : w.ownsRow 0 69 2 V l.length (cellsW l)) (hVt : ∀ k, V.ownBlock = some k → (s.tag k).1 = 7) (hl : l.length ≤ 100000) (hroom : s.f2 + s.N2 + 1 ≤ 2 * K) (hK : K ≤ 10000000) :
    Calls Try.prog 57 #[ptr Z, V] w fun e w' => e = .returned (.tuple #[]) ∧ ∃ s', WI w0 K Z none s' w' ∧ s'.sd = s.sd ∧ s'.f1 + s'.N1 + s'.f2 + s'.N2 = s.f1 + s.N1 + s.f2 + s.N2 + 1 ∧ s'.f2 + s'.N2 = s.f2 + s.N2 + 1 ∧ (∀ k, k < w.heap.size → (s.tag k).1 ≠ 0 → (s'.tag k).1 ≠ 0 ∧ w'.heap[k]? = w.heap[k]?) ∧ s'.hn = s.hn := by
  obtain ⟨pv, cv, rfl⟩ := owns_form hV
  have hZ := h.lt
  have z1 : w.cell? ⟨Z, 3, none⟩ = some (.slice s.pf2 s.N2 s.cf2) := h.cell 3
  have H := hide h
  have HV := hide hV
  have HVt := hide hVt
  have hn1 := h.n2
  clear h hV hVt
  go_enter Try.func57, Try.ntmps57
  go_wp2_with (first
    | (at_builtin; refine push_own 27 43 _ 1 24 Try.underlying27 info43 rfl (by decide) rfl (.tmp 8) (.tmp 10) rfl (.slice s.pf2 s.N2 s.cf2) s.N2 ((List.range s.N2).map s.vs2) (by rfl) w (unhide H).b2.rf [.slice pv l.length cv] rfl (by intro u hu; obtain rfl := List.mem_singleton.1 hu; rfl) (by rfl) (by omega) (by omega) ?_
       intro p5 c5 w5 r1 r2 r3
       have hZ5 : w5.heap[Z]? = some (.cells s.cs 30 (0, 0)) := (r2.block Z hZ (fun q => by
         have a := (unhide H).b2.tf Z q
         rw [(unhide H).tz] at a
         exact absurd a (by decide))).trans (unhide H).blk
       have z5 : w5.cell? ⟨Z, 3, none⟩ = some (.slice s.pf2 s.N2 s.cf2) := cell_of_row w5 Z 3 _ 30 (0, 0) hZ5
       have fz5 := frz hZ5 3
       have hZl5 := lt_of_row hZ5
       have HR := hide (And.intro r1 (And.intro r2 (And.intro r3 hZ5)))
       clear r1 r2 r3 hZ5)
    | fail)
  obtain ⟨r1, r2, r3, hZ5⟩ := unhide HR
  generalize hW1 : w5.setCell ⟨Z, 3, none⟩ (.slice p5 (s.N2 + 1) c5) = W1
  have b1 : W1.heap[Z]? = some (.cells (s.cs.setIfInBounds 3 (.slice p5 (s.N2 + 1) c5)) 30 (0, 0)) := by rw [← hW1]; exact heap_setCell_same w5 Z 3 _ 30 _ hZ5
  have o1 : Only (fun k => k = Z ∨ (Value.slice s.pf2 s.N2 s.cf2).ownBlock = some k ∨ (Value.slice s.pw2 s.N2 s.cw2).ownBlock = some k) w W1 := by
    rw [← hW1]
    exact (r2.mono (fun k _ q => .inr (.inl q))).put ⟨Z, 3, none⟩ _ (.inl (.inl rfl))
  have tne : ∀ k a b, (unhide H).tz = (unhide H).tz → s.tag k = (a, b) → ((a, b) : Tg) ≠ (0, 0) → k ≠ Z := fun k a b _ e n q => n (by rw [← e, q]; exact (unhide H).tz)
  have rf1 : W1.ownsRow 0 43 1 (.slice p5 (s.N2 + 1) c5) (s.N2 + 1) ((List.range s.N2).map s.vs2 ++ [.slice pv l.length cv]) := by
    rw [← hW1]
    refine owns_only r1 (Only.setCell w5 ⟨Z, 3, none⟩ _) (fun k hk q => ?_)
    have q' : k = Z := q
    rcases r3 k hk with a | a
    · exact tne k _ _ rfl ((unhide H).b2.tf k a) (by decide) q'
    · omega
  have hq1 : ∀ k, (Value.slice s.pf2 s.N2 s.cf2).ownBlock = some k → s.tag k = (0, 4) := (unhide H).b2.tf
  have rw1 : W1.ownsRow 0 43 1 (.slice s.pw2 s.N2 s.cw2) s.N2 ((List.range s.N2).map s.ws2) := by
    refine owns_same (unhide H).u2.rw_ (fun k hk => ?_)
    have e := (unhide H).u2.tw k hk
    have hkl := owns_blk (unhide H).u2.rw_ k hk
    rw [← hW1, heap_setCell_other _ _ _ _ (tne k _ _ rfl e (by decide))]
    exact r2.block k hkl (fun q => by have a := hq1 k q; rw [e] at a; exact absurd a (by decide))
  have rv1 : W1.ownsRow 0 69 2 (.slice pv l.length cv) l.length (cellsW l) := by
    refine owns_same (unhide HV) (fun k hk => ?_)
    have e := unhide HVt k hk
    have hkl := owns_blk (unhide HV) k hk
    rw [← hW1, heap_setCell_other _ _ _ _ (fun q => by have q' : k = Z := q; rw [q', (unhide H).tz] at e; simp at e)]
    exact r2.block k hkl (fun q => by have a := hq1 k q; rw [a] at e; simp at e)
  have HR3 := hide r3
  clear r1 r2 r3 hZ5 HR tne
  have dr := (Below.refl W1.heap.size W1).drew
  obtain ⟨p2, c2, w6, hr6, b6, rv6, hn6⟩ := app_nil3 43 69 43 _ 2 24 Try.underlying43 info69 rfl (by decide) (by decide) _ _ _ W1.drew (owns_below rv1 dr) (cellsW_one l) (by omega)
  obtain ⟨p7, c7, w7, hr7, rw7, o7, hn7⟩ := app_own 27 43 27 _ 1 24 Try.underlying27 info43 rfl (by decide) (.slice s.pw2 s.N2 s.cw2) s.N2 ((List.range s.N2).map s.ws2) w6 (owns_below (owns_below rw1 dr) b6) [.slice p2 l.length c2] rfl (by intro u hu; obtain rfl := List.mem_singleton.1 hu; rfl) (by omega) (by omega)
  have b16 : Below W1.heap.size W1 w6 := dr.trans (b6.mono (Nat.le_refl _))
  have bZ6 := (b16.block Z (lt_of_row b1)).trans b1
  have bZ7 : w7.heap[Z]? = some (.cells (s.cs.setIfInBounds 3 (.slice p5 (s.N2 + 1) c5)) 30 (0, 0)) := (o7.block Z (lt_of_row bZ6) (fun q => by
    have a := (unhide H).u2.tw Z q
    rw [(unhide H).tz] at a
    exact absurd a (by decide))).trans bZ6
  have x1 : W1.cell? ⟨Z, 4, none⟩ = some (.slice s.pw2 s.N2 s.cw2) := cell_of_row _ Z 4 _ 30 (0, 0) b1
  have x6 : w6.cell? ⟨Z, 4, none⟩ = some (.slice s.pw2 s.N2 s.cw2) := cell_of_row _ Z 4 _ 30 (0, 0) bZ6
  have bZ6a : (w6.alloc (.cells #[.slice p2 l.length c2] 43)).heap[Z]? = _ := (heap_alloc_old _ _ (lt_of_row bZ6)).trans bZ6
  have x6a : (w6.alloc (.cells #[.slice p2 l.length c2] 43)).cell? ⟨Z, 4, none⟩ = some (.slice s.pw2 s.N2 s.cw2) := cell_of_row _ Z 4 _ 30 (0, 0) bZ6a
  have x7 : w7.cell? ⟨Z, 4, none⟩ = some (.slice s.pw2 s.N2 s.cw2) := cell_of_row _ Z 4 _ 30 (0, 0) bZ7
  have f7 := frz bZ7 4
  have l1 := lt_of_row b1
  have l6 := lt_of_row bZ6
  have l7 := lt_of_row bZ7
  have l6a := lt_of_row bZ6a
  have HO := hide (And.intro o1 (And.intro rf1 (And.intro b16 (And.intro o7 (And.intro rw7 (And.intro rv6 (And.intro hn6 (And.intro hn7 bZ7))))))))
  clear o1 rf1 rw1 rv1 dr b6 rv6 hn6 rw7 o7 hn7 b16 bZ6 bZ7 bZ6a b1 hq1
  go_region_law (first
    | refine step_app_run rfl (.const (.slice none 0 0)) (.tmp 19) 43 rfl (.slice none 0 0) (.slice pv l.length cv) (by rfl) (by rfl) (.slice p2 l.length c2) w6 hr6 ?_
    | refine step_app_run rfl (.tmp 18) (.tmp 21) 27 rfl (.slice s.pw2 s.N2 s.cw2) (.slice (some ⟨w6.heap.size, 0, none⟩) 1 1) (by rfl) (by rfl) (.slice p7 (s.N2 + 1) c7) w7 hr7 ?_)
  all_goals go_wp2
  all_goals refine bodyPost_end (results_none rfl _ _ _) rfl ?_
  all_goals
    refine ⟨rfl, ?_⟩
    obtain ⟨o1, rf1, b16, o7, rw7, rv6, hn6, hn7, bZ7⟩ := unhide HO
    have hh := unhide H
    have hwk : ∀ k, (Value.slice s.pw2 s.N2 s.cw2).ownBlock = some k → k < w.heap.size ∧ s.tag k = (0, 5) := fun k hk => ⟨owns_blk hh.u2.rw_ k hk, hh.u2.tw k hk⟩
    have s1 := o1.size
    have s2 := b16.size
    have oc := Only.setCell w7 ⟨Z, 4, none⟩ (.slice p7 (s.N2 + 1) c7)
    have hfk : ∀ k, (Value.slice p5 (s.N2 + 1) c5).ownBlock = some k → (Value.slice s.pf2 s.N2 s.cf2).ownBlock = some k ∨ (w.heap.size ≤ k ∧ k < W1.heap.size) := fun k hk => by
      rcases unhide HR3 k hk with a | a
      · exact .inl a
      · exact .inr ⟨a, owns_blk rf1 k hk⟩
    have hfw : ∀ k, (Value.slice p5 (s.N2 + 1) c5).ownBlock = some k → (Value.slice s.pw2 s.N2 s.cw2).ownBlock ≠ some k ∧ k ≠ Z := fun k hk => by
      rcases hfk k hk with a | a
      · have e := hh.b2.tf k a
        exact ⟨fun q => by have := (hwk k q).2; rw [e] at this; exact absurd this (by decide), fun q => by rw [q, hh.tz] at e; exact absurd e (by decide)⟩
      · exact ⟨fun q => by have := (hwk k q).1; omega, fun q => by omega⟩
    have hoA := (((o1.trans (Only.of_below (P := fun _ => False) b16) (fun _ _ q => q.elim)).trans o7 (fun _ _ q => .inr (.inr q))).put ⟨Z, 4, none⟩ (.slice p7 (s.N2 + 1) c7) (.inl (.inl rfl)))
    obtain ⟨tg', htg, hwi⟩ := hh.add2 (V := .slice pv l.length cv) (V2 := .slice p2 l.length c2) (m1 := W1.heap.size) (m2 := w6.heap.size) (pf' := p5) (cf' := c5) (pw' := p7) (cw' := c7) (w' := w7.setCell ⟨Z, 4, none⟩ (.slice p7 (s.N2 + 1) c7)) (unhide HV) (unhide HVt) hl hroom
      hoA
      (heap_setCell_same w7 Z 4 _ 30 _ bZ7)
      (owns_only (owns_only (owns_below rf1 b16) o7 (fun k hk q => (hfw k hk).1 q)) oc (fun k hk q => (hfw k hk).2 q))
      (owns_only rw7 oc (fun k hk q => by
        have q' : k = Z := q
        rcases hn7 k hk with a | a
        · have e := (hwk k a).2
          rw [q', hh.tz] at e
          exact absurd e (by decide)
        · omega))
      hfk hn7 s1 s2 ⟨p2, c2, rfl, fun hn => by
        obtain ⟨g, cg, cur, eg, hg, _⟩ := owns_at rv6 hn
        have hgk := hn6 g (by rw [eg]; rfl)
        have hgk' : g = W1.heap.size := hgk
        have hg6 := owns_blk rv6 g (by rw [eg]; rfl)
        have h7 := o7.block g hg6 (fun q => by have := (hwk g q).1; omega)
        have h8 : (w7.setCell ⟨Z, 4, none⟩ (.slice p7 (s.N2 + 1) c7)).heap[g]? = w7.heap[g]? := heap_setCell_other _ _ _ _ (by show g ≠ Z; omega)
        cases eg
        refine ⟨g, rfl, by omega, hg6, Nat.lt_of_lt_of_le hg6 (Nat.le_trans o7.size oc.size), fun j u hu => ?_⟩
        rw [World.cell?_of_block (h8.trans h7)]
        exact owns_cell rv6 j u hu⟩
    refine ⟨_, hwi, rfl, by simp only; omega, by simp only; omega, fun k hk h0 => ⟨htg k hk h0, hoA.block k hk ?_⟩, rfl⟩
    rintro (a | a | a)
    · rw [a, hh.tz] at h0; exact h0 rfl
    · rw [hh.b2.tf k a] at h0; exact h0 rfl
    · rw [hh.u2.tw k a] at h0; exact h0 rfl
end
end Go.Proofs.Ytpelmacblglhoaa
