import Derived.Test.YtpelmacblglhoaaDud
import Derived.Test.YtpelmacblglhoaaZzaj
namespace Go.Proofs.Ytpelmacblglhoaa
open Go.RowKit
set_option maxHeartbeats 4000000
set_option maxRecDepth 8000
/-- A new disk of the document's. -/
def Rd.new (l : List Bs) : Rd := { l := l, is := List.replicate l.length false, p := List.replicate l.length [], left := 0, dead := false, done := 0 }
/-- A new disk of the document's, or none beside an error. -/
def RN (w : World) (l : List Bs) (r : Int) (v : Value) (w' : World) : Prop := (r = 0 → ∃ X vl vi vp, v = ptr X ∧ RAt X (Rd.new l) vl vi vp w' ∧ ∀ k, OfR X vl vi vp k → w.heap.size ≤ k) ∧ (r ≠ 0 → v = .pointer none)
theorem RN.err {w w' : World} {l : List Bs} {r : Int} (h : r ≠ 0) : RN w l r (.pointer none) w' := ⟨fun q => absurd q h, fun _ => rfl⟩
theorem RN.ok {w w' : World} {l : List Bs} {r : Int} (h : r = 0) (X : Nat) (vl vi vp : Value) (hr : RAt X (Rd.new l) vl vi vp w') (hn : ∀ k, OfR X vl vi vp k → w.heap.size ≤ k) : RN w l r (ptr X) w' := ⟨fun _ => ⟨X, vl, vi, vp, rfl, hr, hn⟩, fun q => absurd h q⟩
theorem run_mk2 (T e : TypeId) (z : Value) (sz bys : Nat) (ht : Try.prog.underlying T = some (.slice e)) (hinfo : (Try.prog.info? e).map (fun i => (i.zero, i.size, i.bytes)) = some (some z, sz, bys)) (n : Nat) (hn : n ≤ 1000000) (hb : bys ≤ 1000) :
    ∃ A : Array Value, (∀ W, (Instr.makeSlice T (.int .i64 (n : Int)) (.int .i64 (n : Int))).run Try.prog W = .ok (.slice (some ⟨W.heap.size, 0, none⟩) n n) (W.alloc (.cells A e))) ∧ A = madeCells z.cells (n * sz) := by
  obtain ⟨i0, hi, hz0, hz1, hz2⟩ := info_parts hinfo
  refine ⟨madeCells z.cells (n * i0.size), fun W => ?_, by rw [hz1]⟩
  have := run_make W T e i0 z ht hi hz0 .i64 .i64 (n : Int) (n : Int) (by omega) (by omega) (by
    rw [hz2]
    have : (bys : Int) * (n : Int) ≤ 1000 * 1000000 := Int.mul_le_mul (by omega) (by omega) (by omega) (by omega)
    omega) (by omega)
  simpa using this
theorem two0 (w : World) (A B : Array Value) (Z : Obj) {e f : TypeId} : (((w.alloc (.cells A e)).alloc (.cells B f)).alloc Z).heap[w.heap.size]? = some (.cells A e (0, 0)) := by
  rw [heap_alloc_old _ _ (by simp; omega), heap_alloc_old _ _ (by simp)]
  exact heap_alloc_new _ _
theorem two1 (w : World) (A B : Array Value) (Z : Obj) {e f : TypeId} : (((w.alloc (.cells A e)).alloc (.cells B f)).alloc Z).heap[w.heap.size + 1]? = some (.cells B f (0, 0)) := by
  rw [heap_alloc_old _ _ (by simp)]
  have := heap_alloc_new (w.alloc (.cells A e)) (.cells B f)
  simpa using this
/-- append(nil, l...): all of it is new. -/
theorem app_nil2 (a : Option Addr) (cap : Nat) (l : List Bs) (w : World) (hp : Sts w a l.length l) (h0 : 0 < l.length) (hn : l.length ≤ 1000000) :
    ∃ V w', (Builtin.append_ #[28, 28] 28 #[.slice none 0 0, .slice a l.length cap]).run Try.prog w = .ok V w' ∧ (∃ p n c, V = .slice p n c) ∧ Below w.heap.size w w' ∧ w'.ownsRow 0 9 1 V l.length (l.map S) ∧ (∀ k, V.ownBlock = some k → k = w.heap.size) := by
  obtain ⟨i0, hi, hz0, hz1, hz2⟩ := info_parts info9
  obtain ⟨p, o, rfl, hc⟩ := hp.2 h0
  obtain ⟨v', w', hr, h2, h3, _, h4⟩ := run_append_own_at (P := Try.prog) w 0 28 28 9 i0 _ 1 16 Try.underlying28 hi hz0 hz1 hz2 rfl (by decide) (.slice none 0 0) 0 [] (owns_nil _ _ _) ⟨p, o, none⟩ l.length cap (l.map S) (by simp) (by
    intro j u hj
    have hj1 : j < l.length := by have := (List.getElem?_eq_some_iff.1 hj).1; simpa using this
    rw [add_off, hc j hj1, ← hj]
    simp [hj1]) (by intro u hu; obtain ⟨x, _, rfl⟩ := List.mem_map.1 hu; rfl) (by unfold maxLen; omega) (by omega) (Nat.zero_le _)
  refine ⟨v', w', hr, ?_, (Below.refl _ _).grown h3 (Nat.le_refl _) (fun k e => by cases e), by simpa using h2, fun k hk => ?_⟩
  · obtain ⟨q, c, e⟩ := owns_form h2
    exact ⟨q, _, c, e⟩
  · rcases h4 with q | q
    · rw [q] at hk; cases hk
    · rw [q] at hk; cases hk; rfl
theorem new_rat {X gi gp : Nat} {l : List Bs} {A1 A2 : Array Value} {W w5 : World} {p5 : Option Addr} {n5 c5 : Nat}
    (hx : W.heap[X]? = some (.cells #[Value.slice none 0 0, Value.slice (some ⟨gi, 0, none⟩) l.length l.length, Value.slice (some ⟨gp, 0, none⟩) l.length l.length, Value.int .i64 0, Value.bool false, Value.int .i64 0] 47 (0, 0)))
    (h1 : W.heap[gi]? = some (.cells A1 4 (0, 0))) (h2 : W.heap[gp]? = some (.cells A2 9 (0, 0))) (e1 : A1 = madeCells (Value.bool false).cells (l.length * 1)) (e2 : A2 = madeCells (Value.string ⟨#[]⟩).cells (l.length * 1))
    (g5 : Below W.drew.heap.size W.drew w5) (x5 : w5.ownsRow 0 9 1 (.slice p5 n5 c5) l.length (l.map S)) (y5 : ∀ k, (Value.slice p5 n5 c5).ownBlock = some k → k = W.drew.heap.size) (hm : l.length ≤ 1000000) {lo : Nat} (ha : lo ≤ gi) (hb : lo ≤ gp) (hc : lo ≤ X := by omega) (hd : lo ≤ W.heap.size := by omega) :
    RAt X (Rd.new l) (.slice p5 n5 c5) (.slice (some ⟨gi, 0, none⟩) l.length l.length) (.slice (some ⟨gp, 0, none⟩) l.length l.length) (w5.setCell ⟨X, 0, none⟩ (.slice p5 n5 c5)) ∧ ∀ k, OfR X (.slice p5 n5 c5) (.slice (some ⟨gi, 0, none⟩) l.length l.length) (.slice (some ⟨gp, 0, none⟩) l.length l.length) k → lo ≤ k := by
  have s1 : A1.size = l.length * 1 := by rw [e1]; simp [madeCells]
  have s2 : A2.size = l.length * 1 := by rw [e2]; simp [madeCells]
  have o1 := owns_full (n := 1) h1 s1 (by unfold maxLen; omega)
  have o2 := owns_full (n := 1) h2 s2 (by unfold maxLen; omega)
  have t1 : A1.toList = (List.replicate l.length false).map Value.bool := by rw [e1, made4]; simp [cellsB]
  have t2 : A2.toList = (List.replicate l.length ([] : Bs)).map S := by
    rw [e2, show (Value.string ⟨#[]⟩).cells = #[Value.string ⟨#[]⟩] from rfl, Nat.mul_one, made9]; simp
  rw [t1] at o1
  rw [t2] at o2
  have hXl := lt_of_row hx
  have g1 := lt_of_row h1
  have g2 := lt_of_row h2
  have hsz : W.drew.heap.size = W.heap.size := rfl
  rw [hsz] at y5
  have b1 : ∀ k, k < W.heap.size → w5.heap[k]? = W.heap[k]? := fun k hk => g5.block k hk
  have n1 : gi ≠ X := fun q => by rw [q, hx] at h1; cases h1
  have n2 : gp ≠ X := fun q => by rw [q, hx] at h2; cases h2
  have oc := Only.setCell w5 ⟨X, 0, none⟩ (.slice p5 n5 c5)
  refine ⟨⟨?_, ?_, ?_, ?_, ?_⟩, ?_⟩
  · rw [heap_setCell_same w5 X 0 _ 47 _ ((b1 X hXl).trans hx)]
    rfl
  · exact owns_only x5 oc (fun k hk q => by have := y5 k hk; simp at q; omega)
  · exact owns_only (owns_same o1 (fun k hk => by cases hk; exact b1 gi g1)) oc (fun k hk q => by cases hk; exact n1 q)
  · exact owns_only (owns_same o2 (fun k hk => by cases hk; exact b1 gp g2)) oc (fun k hk q => by cases hk; exact n2 q)
  · intro k hk q
    have e := y5 k hk
    have q2 : gp = k := Option.some.inj q
    omega
  · rintro k (rfl | hk | hk | hk)
    · exact hc
    · rw [y5 k hk]; exact hd
    · cases hk; exact ha
    · cases hk; exact hb
section
variable {X : Nat} {r : Rd} {vl vi vp : Value} {w : World}
theorem rBlocks_any (h : RAt X r vl vi vp w) (h8 : 8 ≤ r.l.length) (hm : r.l.length ≤ 4096) : Calls Try.prog 12 #[ptr X] w fun e w' => ∃ V, e = .returned V ∧ w'.ownsRow 0 9 1 V r.l.length (r.l.map S) ∧ (∀ k, V.ownBlock = some k → w.heap.size ≤ k) ∧ Below w.heap.size w w' := by
  obtain ⟨c0, -, -, -, -, -⟩ := h.c
  have hl := h.lt
  obtain ⟨p, cap, rfl, hs, -⟩ := Sts.of h.l
  obtain ⟨V, w5, hr, hV, g5, x5, y5⟩ := app_nil2 p cap r.l w hs (by omega) (by omega)
  obtain ⟨p5, n5, c5, rfl⟩ := hV
  have H := hide (And.intro x5 (And.intro (fun k hk => Nat.le_of_eq (y5 k hk).symm) g5))
  clear h hs g5 x5 y5
  generalize r.l.length = x at *
  go_enter Try.func12, Try.ntmps12
  go_wp2_with (at_builtin; refine Lib.wpList_append_run _ rfl _ _ _ _ rfl _ _ rfl rfl _ _ hr ?_)
  go_ret
  exact ⟨_, rfl, (unhide H).1, (unhide H).2.1, (unhide H).2.2⟩
/-- What is pending of the first k blocks. -/
def pndR (r : Rd) : Nat → List Wr
  | 0 => []
  | k + 1 => if r.is.getD k false then pndR r k ++ [(k, r.p.getD k [])] else pndR r k
theorem pndR_le (r : Rd) (k : Nat) : (pndR r k).length ≤ k := by
  induction k with
  | zero => simp [pndR]
  | succ k ih =>
    simp only [pndR]
    split
    · simp; omega
    · omega
/-- Writes in a row of one's own, none of it old. -/
structure OwW (w : World) (V : Value) (l : List Wr) (wr : World) : Prop where
  row : wr.ownsRow 0 69 2 V l.length (cellsW l)
  new : ∀ k, V.ownBlock = some k → w.heap.size ≤ k
  bel : Below w.heap.size w wr
theorem OwW.nil (w : World) : OwW w (.slice none 0 0) [] w := ⟨owns_nil _ _ _, (fun _ h => nomatch h), Below.refl _ _⟩
theorem OwW.below {w wr w' : World} {V : Value} {l : List Wr} (h : OwW w V l wr) (hb : Below wr.heap.size wr w') : OwW w V l w' :=
  ⟨owns_below h.row hb, h.new, h.bel.trans (hb.mono h.bel.size)⟩
theorem wp_pushW {ops : Array Oper} {rest : List Oper} {o : Oper} {ac : Act} {Q : Exit → Act → World → Prop} {w wr : World} {V : Value} {l : List Wr} {x : Wr} (hgd : o.guard = none) (p q : Operand) (ho : o.op = .call { callee := .builtin .append, args := #[p, q], argTypes := #[43, 43] })
    (hp : ac.eval p = V) (hq : ac.eval q = .slice (some ⟨wr.heap.size, 0, none⟩) 1 1) (h : OwW w V l wr) (hs : l.length ≤ 1000000000)
    (hn : ∀ p c w', OwW w (.slice p (l.length + 1) c) (l ++ [x]) w' → wpList Try.prog ops Q rest (ac.put o.dst (.slice p (l.length + 1) c)) w') : wpList Try.prog ops Q (o :: rest) ac (wr.alloc (.cells #[I x.1, S x.2] 69)) := by
  refine push_own 43 69 _ 2 24 Try.underlying43 info69 rfl (by decide) hgd p q ho V l.length (cellsW l) hp wr h.row [I x.1, S x.2] rfl (by intro u hu; simp at hu; rcases hu with rfl | rfl <;> rfl) hq (by omega) (by omega) ?_
  intro pp cap w' r1 r2 r3
  refine hn pp cap w' ⟨by rw [List.length_append, cellsW_append]; exact r1, fun k hk => ?_, r2.below h.bel h.bel.size h.new⟩
  rcases r3 k hk with q | q
  · exact h.new k q
  · exact Nat.le_trans h.bel.size q
theorem rPending_any (h : RAt X r vl vi vp w) (h8 : 8 ≤ r.l.length) (hm : r.l.length ≤ 4096) : Calls Try.prog 15 #[ptr X] w fun e w' => ∃ V, e = .returned V ∧ w'.ownsRow 0 69 2 V (pndR r r.l.length).length (cellsW (pndR r r.l.length)) ∧ (∀ k, V.ownBlock = some k → w.heap.size ≤ k) ∧ Below w.heap.size w w' := by
  have H := hide h
  obtain ⟨gl, cl, gi, ci, gp, cp, rfl, rfl, rfl, -⟩ := h.at 0 (by omega)
  clear h
  generalize hx : r.l.length = x at *
  have HX := hide hx
  clear hx
  go_enter Try.func15, Try.ntmps15
  go_wp2
  go_loopw [3, 4] (fun V i wr => ∃ k : Nat, k ≤ x ∧ i = .int .i64 k ∧ OwW w V (pndR r k) wr) (fun _ i _ => x - (Go.RowKit.intOf i).toNat)
  case atStart => exact ⟨0, by omega, rfl, OwW.nil w⟩
  case round =>
    obtain ⟨k, hk, rfl, ho⟩ := hrel
    have hr := (unhide H).below ho.bel
    obtain ⟨d0, d1, d2, -, -, -⟩ := hr.c
    have hlr := hr.lt
    have HO := hide ho
    by_cases hlt : k < x
    · have hlt' : (k : Int) < (x : Int) := by omega
      obtain ⟨gl', cl', gi', ci', gp', cp', q1, q2, q3, -, t2, t3, -⟩ := hr.at k (by rw [unhide HX]; exact hlt)
      rw [unhide HX] at q1 q2 q3
      cases q1
      cases q2
      cases q3
      have l2 := blk_lt t2
      have l3 := blk_lt t3
      have hpn : pndR r (k + 1) = if r.is.getD k false then pndR r k ++ [(k, r.p.getD k [])] else pndR r k := rfl
      have hle := pndR_le r k
      generalize r.p.getD k [] = y at *
      cases hb : r.is.getD k false with
      | false =>
        rw [hb] at t2 hpn
        have ho2 := ho
        rw [show pndR r k = pndR r (k + 1) from hpn.symm] at ho2
        have HN := hide ho2
        clear ho2
        clear hr ho hpn
        go_wp2
        go_round
        case measure => simp [Go.RowKit.intOf]; omega
        case rel => exact ⟨k + 1, by omega, by simp, unhide HN⟩
      | true =>
        rw [hb] at t2 hpn
        rw [if_pos rfl] at hpn
        have HP := hide hpn
        obtain ⟨pv, cv, rfl⟩ := owns_form ho.row
        clear hr ho hpn
        go_wp2_with (first
          | (at_builtin; refine wp_pushW (x := (k, y)) rfl (.tmp 21) (.tmp 31) rfl (by rfl) (by rfl) (unhide HO) (by omega) ?_; intro p3 c3 w3 hw3; have HO3 := hide hw3; clear hw3))
        go_round
        case measure => simp [Go.RowKit.intOf]; omega
        case rel => exact ⟨k + 1, by omega, by simp, by rw [unhide HP]; exact unhide HO3⟩
    · have hkx : k = x := by omega
      have hlt' : ¬ (k : Int) < (x : Int) := by omega
      obtain ⟨pv, cv, rfl⟩ := owns_form ho.row
      clear hr ho
      go_wp2
      go_ret
      subst hkx
      exact ⟨_, rfl, (unhide HO).row, (unhide HO).new, (unhide HO).bel⟩
end
/-- The document's Load: the disk, and the error. -/
theorem rLoad2_any (a : Option Addr) (n cap : Nat) (l : List Bs) (w : World) (hp : Sts w a n l) (hn : n ≤ 1000000000000) :
    Calls Try.prog 22 #[.slice a n cap] w fun e w' => (∃ v, e = .returned (.tuple #[v, I (loadv l)]) ∧ RN w l (loadv l) v w') ∧ Below w.heap.size w w' := by
  have hN := hp.1
  subst hN
  have HP := hide hp
  clear hp
  generalize hr : loadv l = r
  have HR := hide hr
  clear hr
  by_cases hm : mayv (l.length : Int) = true
  · obtain ⟨m1, m2⟩ : (8 : Int) ≤ (l.length : Int) ∧ (l.length : Int) ≤ 4096 := by simpa [mayv] using hm
    have HM := hide hm
    clear hm
    go_enter Try.func22, Try.ntmps22
    go_wp2
    go_loopw [4] (fun i wr => ∃ k : Nat, k ≤ l.length ∧ i = .int .i64 k ∧ allR (l.take k) = true ∧ wr = w) (fun i _ => l.length - (Go.RowKit.intOf i).toNat)
    case atStart => exact ⟨0, by omega, rfl, rfl, rfl⟩
    case round =>
      obtain ⟨k, hk, rfl, ha, rfl⟩ := hrel
      by_cases hlt : k < l.length
      · obtain ⟨p, o, rfl, hpl, hc0⟩ := (unhide HP).at hlt
        have hlt' : (k : Int) < (l.length : Int) := by omega
        have HN := hide (allR_next l k hlt)
        have HW := hide (allR_bad l k hlt)
        generalize l.getD k [] = x at *
        have HA := hide ha
        clear ha
        by_cases hx : x.length = 512
        · have hx' : ((x.length : Nat) : Int) = 512 := by omega
          have HA2 := hide (show allR (l.take (k + 1)) = true by rw [unhide HN, unhide HA]; simp [hx])
          go_wp2
          go_round
          case measure => simp [Go.RowKit.intOf]; omega
          case rel => exact ⟨k + 1, by omega, by simp, unhide HA2, by first | trivial | rfl⟩
        · have hx' : ((x.length : Nat) : Int) ≠ 512 := by omega
          have HL := hide (loadv_bad (unhide HM) (unhide HW hx))
          go_wp2
          go_ret2
          obtain rfl : r = 81 := (unhide HR).symm.trans (unhide HL)
          exact ⟨⟨_, rfl, RN.err (by decide)⟩, Below.refl _ _⟩
      · have hlt' : ¬ (k : Int) < (l.length : Int) := by omega
        obtain rfl : k = l.length := by omega
        rw [List.take_of_length_le (Nat.le_refl _)] at ha
        have HL := hide (loadv_ok (unhide HM) ha)
        clear ha
        obtain ⟨A1, k1, j1⟩ := run_mk2 45 4 _ 1 1 Try.underlying45 info4 l.length (by omega) (by omega)
        obtain ⟨A2, k2, j2⟩ := run_mk2 28 9 _ 1 16 Try.underlying28 info9 l.length (by omega) (by omega)
        have HJ := hide (And.intro j1 j2)
        clear j1 j2
        go_wp2
        go_region
        · obtain ⟨hx, hb⟩ := three wr (.cells A1 4) (.cells A2 9) #[Value.slice none 0 0, Value.slice (some ⟨wr.heap.size, 0, none⟩) l.length l.length, Value.slice (some ⟨wr.heap.size + 1, 0, none⟩) l.length l.length, Value.int .i64 0, Value.bool false, Value.int .i64 0]
          generalize hW : ((wr.alloc (.cells A1 4)).alloc (.cells A2 9)).alloc (.cells #[Value.slice none 0 0, Value.slice (some ⟨wr.heap.size, 0, none⟩) l.length l.length, Value.slice (some ⟨wr.heap.size + 1, 0, none⟩) l.length l.length, Value.int .i64 0, Value.bool false, Value.int .i64 0] 47) = W at hx hb ⊢
          have HB := hide hb
          have hg0 : W.heap[wr.heap.size]? = some (.cells A1 4 (0, 0)) := by rw [← hW]; exact two0 _ _ _ _
          have hg1 : W.heap[wr.heap.size + 1]? = some (.cells A2 9 (0, 0)) := by rw [← hW]; exact two1 _ _ _ _
          have c0 : W.cell? ⟨wr.heap.size + 1 + 1, 0, none⟩ = some (.slice none 0 0) := cell_of_row W _ 0 _ 47 (0, 0) hx
          have hl := lt_of_row hx
          obtain ⟨V, w5, hr, hV, g5, x5, y5⟩ := app_nil2 a cap l W.drew ((unhide HP).below (below_drew hb)) (by omega) (by omega)
          obtain ⟨p5, n5, c5, rfl⟩ := hV
          have x6 := (g5.block _ (lt_of_row hx)).trans hx
          have c6 : w5.cell? ⟨wr.heap.size + 1 + 1, 0, none⟩ = some (.slice none 0 0) := cell_of_row w5 _ 0 _ 47 (0, 0) x6
          have z6 := frz x6 0
          have hl6 := lt_of_row x6
          have HN := hide (((below_drew hb).trans (g5.mono hb.size)).setCell (p := ⟨wr.heap.size + 1 + 1, 0, none⟩) (by show wr.heap.size ≤ wr.heap.size + 1 + 1; omega) (Value.slice p5 n5 c5))
          have HQ := hide (new_rat (lo := wr.heap.size) (X := wr.heap.size + 1 + 1) (gi := wr.heap.size) (gp := wr.heap.size + 1) hx hg0 hg1 (unhide HJ).1 (unhide HJ).2 g5 x5 y5 (by omega) (by omega) (by omega))
          clear hx hb hW g5 x5 x6 y5 hg0 hg1
          go_wp2_with (at_builtin; refine Lib.wpList_append_run _ rfl _ _ _ _ rfl _ _ rfl rfl _ _ hr ?_)
          go_ret2
          obtain rfl : r = 0 := (unhide HR).symm.trans (unhide HL)
          exact ⟨⟨_, rfl, RN.ok rfl _ _ _ _ (unhide HQ).1 (fun k q => by have := (unhide HQ).2 k q; omega)⟩, unhide HN⟩
        · obtain ⟨hx, hb⟩ := three wr (.cells A2 9) (.cells A1 4) #[Value.slice none 0 0, Value.slice (some ⟨wr.heap.size + 1, 0, none⟩) l.length l.length, Value.slice (some ⟨wr.heap.size, 0, none⟩) l.length l.length, Value.int .i64 0, Value.bool false, Value.int .i64 0]
          generalize hW : ((wr.alloc (.cells A2 9)).alloc (.cells A1 4)).alloc (.cells #[Value.slice none 0 0, Value.slice (some ⟨wr.heap.size + 1, 0, none⟩) l.length l.length, Value.slice (some ⟨wr.heap.size, 0, none⟩) l.length l.length, Value.int .i64 0, Value.bool false, Value.int .i64 0] 47) = W at hx hb ⊢
          have HB := hide hb
          have hg0 : W.heap[wr.heap.size]? = some (.cells A2 9 (0, 0)) := by rw [← hW]; exact two0 _ _ _ _
          have hg1 : W.heap[wr.heap.size + 1]? = some (.cells A1 4 (0, 0)) := by rw [← hW]; exact two1 _ _ _ _
          have c0 : W.cell? ⟨wr.heap.size + 1 + 1, 0, none⟩ = some (.slice none 0 0) := cell_of_row W _ 0 _ 47 (0, 0) hx
          have hl := lt_of_row hx
          obtain ⟨V, w5, hr, hV, g5, x5, y5⟩ := app_nil2 a cap l W.drew ((unhide HP).below (below_drew hb)) (by omega) (by omega)
          obtain ⟨p5, n5, c5, rfl⟩ := hV
          have x6 := (g5.block _ (lt_of_row hx)).trans hx
          have c6 : w5.cell? ⟨wr.heap.size + 1 + 1, 0, none⟩ = some (.slice none 0 0) := cell_of_row w5 _ 0 _ 47 (0, 0) x6
          have z6 := frz x6 0
          have hl6 := lt_of_row x6
          have HN := hide (((below_drew hb).trans (g5.mono hb.size)).setCell (p := ⟨wr.heap.size + 1 + 1, 0, none⟩) (by show wr.heap.size ≤ wr.heap.size + 1 + 1; omega) (Value.slice p5 n5 c5))
          have HQ := hide (new_rat (lo := wr.heap.size) (X := wr.heap.size + 1 + 1) (gi := wr.heap.size + 1) (gp := wr.heap.size) hx hg1 hg0 (unhide HJ).1 (unhide HJ).2 g5 x5 y5 (by omega) (by omega) (by omega))
          clear hx hb hW g5 x5 x6 y5 hg0 hg1
          go_wp2_with (at_builtin; refine Lib.wpList_append_run _ rfl _ _ _ _ rfl _ _ rfl rfl _ _ hr ?_)
          go_ret2
          obtain rfl : r = 0 := (unhide HR).symm.trans (unhide HL)
          exact ⟨⟨_, rfl, RN.ok rfl _ _ _ _ (unhide HQ).1 (fun k q => by have := (unhide HQ).2 k q; omega)⟩, unhide HN⟩
  · have hm2 : mayv (l.length : Int) = false := by simpa using hm
    have HL := hide (loadv_may hm2)
    have hc : (l.length : Int) < 8 ∨ 4096 < (l.length : Int) := by
      simp [mayv] at hm2
      omega
    clear hm hm2
    rcases hc with hc | hc
    · go_enter Try.func22, Try.ntmps22
      go_wp2
      go_ret2
      obtain rfl : r = 1 := (unhide HR).symm.trans (unhide HL)
      exact ⟨⟨_, rfl, RN.err (by decide)⟩, Below.refl _ _⟩
    · have hc2 : ¬ (l.length : Int) < 8 := by omega
      go_enter Try.func22, Try.ntmps22
      go_wp2
      go_ret2
      obtain rfl : r = 1 := (unhide HR).symm.trans (unhide HL)
      exact ⟨⟨_, rfl, RN.err (by decide)⟩, Below.refl _ _⟩
theorem rNew2_any (n : Int) (w : World) : Calls Try.prog 19 #[I n] w fun e w' => (∃ v, e = .returned (.tuple #[v, I (newv n)]) ∧ RN w (List.replicate n.toNat zs) (newv n) v w') ∧ Below w.heap.size w w' := by
  generalize hr : newv n = r
  have HR := hide hr
  clear hr
  by_cases hm : mayv n = true
  · obtain ⟨m1, m2⟩ : 8 ≤ n ∧ n ≤ 4096 := by simpa [mayv] using hm
    have HN := hide (show newv n = 0 by simp [newv, hm])
    have HM := hide hm
    clear hm
    obtain ⟨c, rfl⟩ : ∃ c : Nat, n = (c : Int) := ⟨n.toNat, by omega⟩
    go_enter Try.func19, Try.ntmps19
    go_wp2
    go_loopw [4, 5] (fun V i wr => ∃ k : Nat, k ≤ c ∧ i = .int .i64 k ∧ Ows w V (List.replicate k zs) wr) (fun _ i _ => c - (Go.RowKit.intOf i).toNat)
    case atStart => exact ⟨0, by omega, rfl, Ows.nil w⟩
    case round =>
      obtain ⟨k, hk, rfl, ho⟩ := hrel
      have HO := hide ho
      clear ho
      by_cases hlt : k < c
      · have hlt' : (k : Int) < (c : Int) := by omega
        go_wp2_with (first
          | (refine make_own 63 5 _ 1 1 Try.underlying63 info5 rfl (.const (.int .i64 512)) (.const (.int .i64 512)) rfl _ _ 512 rfl rfl rfl rfl (by omega) (by omega) ?_; intro w1 ho1 b1 _; rw [made5] at ho1; have HT := hide (zs_text ho1); have HO1 := hide ((unhide HO).below b1); clear ho1 b1)
          | (refine wpList_conv rfl 63 9 (.tmp 18) rfl _ _ (by rfl) (unhide HT) ?_)
          | (at_builtin; refine wp_pushS (x := zs) rfl (.tmp 17) (.tmp 20) rfl (by rfl) (by rfl) (unhide HO1) (by simp; omega) ?_; intro V' w3 hw3; have HO3 := hide hw3; clear hw3))
        go_round
        case measure => simp [Go.RowKit.intOf]; omega
        case rel => exact ⟨k + 1, by omega, by simp, by rw [List.replicate_succ']; exact unhide HO3⟩
      · have hlt' : ¬ (k : Int) < (c : Int) := by omega
        obtain rfl : k = c := by omega
        obtain ⟨p, cap, e, hs, _⟩ := Sts.of (unhide HO).row
        have hL : loadv (List.replicate k zs) = 0 := loadv_ok (by simpa using unhide HM) (allR_zs k)
        have h1 := rLoad2_any p _ cap _ wr hs (by simp; omega)
        rw [hL] at h1
        rw [List.length_replicate] at h1 e
        subst e
        have H1 := hide h1
        have HB := hide (unhide HO).bel
        clear h1 hs HO
        go_wp2_with fail
        refine (unhide H1).mono ?_
        rintro e w2 ⟨⟨v, rfl, hv⟩, b2⟩
        obtain ⟨g, vl, vi, vp, rfl, hra, hrn⟩ := hv.1 rfl
        have HV := hide (And.intro hra hrn)
        clear hra hrn
        have HB2 := hide ((unhide HB).trans (b2.mono (unhide HB).size))
        clear b2 hv
        go_wp2
        go_ret2
        obtain rfl : r = 0 := (unhide HR).symm.trans (unhide HN)
        exact ⟨⟨_, rfl, RN.ok rfl _ _ _ _ (by simpa using (unhide HV).1) (fun k q => Nat.le_trans (unhide HB).size ((unhide HV).2 k q))⟩, unhide HB2⟩
  · have hm2 : mayv n = false := by simpa using hm
    have HN := hide (show newv n = 1 by simp [newv, hm2])
    have hc : n < 8 ∨ 4096 < n := by
      simp [mayv] at hm2
      omega
    clear hm hm2
    rcases hc with hc | hc
    · go_enter Try.func19, Try.ntmps19
      go_wp2
      go_ret2
      obtain rfl : r = 1 := (unhide HR).symm.trans (unhide HN)
      exact ⟨⟨_, rfl, RN.err (by decide)⟩, Below.refl _ _⟩
    · have hc2 : ¬ n < 8 := by omega
      go_enter Try.func19, Try.ntmps19
      go_wp2
      go_ret2
      obtain rfl : r = 1 := (unhide HR).symm.trans (unhide HN)
      exact ⟨⟨_, rfl, RN.err (by decide)⟩, Below.refl _ _⟩
end Go.Proofs.Ytpelmacblglhoaa
