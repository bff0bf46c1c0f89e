import Derived.Test.YtpelmacblglhoaaDsu
import Derived.Test.YtpelmacblglhoaaZzae
namespace Go.Proofs.Ytpelmacblglhoaa
open Go.RowKit
set_option maxHeartbeats 4000000
set_option maxRecDepth 8000
theorem loadv_may {l : List Bs} (h : mayv l.length = false) : loadv l = 1 := by simp [loadv, h]
theorem loadv_bad {l : List Bs} (h : mayv l.length = true) (h2 : allR l = false) : loadv l = 81 := by simp [loadv, h, h2]
theorem loadv_ok {l : List Bs} (h : mayv l.length = true) (h2 : allR l = true) : loadv l = 0 := by simp [loadv, h, h2]
/-- A disk, or none beside an error. -/
def RL (r : Int) (v : Value) : Prop := (r = 0 → ∃ g, v = ptr g) ∧ (r ≠ 0 → v = .pointer none)
theorem RL.err {r : Int} (h : r ≠ 0) : RL r (.pointer none) := ⟨fun q => absurd q h, fun _ => rfl⟩
theorem RL.ok {r : Int} (g : Nat) (h : r = 0) : RL r (ptr g) := ⟨fun _ => ⟨g, rfl⟩, fun q => absurd h q⟩
theorem run_mk (T e : TypeId) (z : Value) (sz bys : Nat) (ht : Try.prog.underlying T = some (.slice e)) (hinfo : (Try.prog.info? e).map (fun i => (i.zero, i.size, i.bytes)) = some (some z, sz, bys)) (n : Nat) (hn : n ≤ 1000000) (hb : bys ≤ 1000) :
    ∃ A : Array Value, ∀ W, (Instr.makeSlice T (.int .i64 (n : Int)) (.int .i64 (n : Int))).run Try.prog W = .ok (.slice (some ⟨W.heap.size, 0, none⟩) n n) (W.alloc (.cells A e)) := by
  obtain ⟨i0, hi, hz0, hz1, hz2⟩ := info_parts hinfo
  refine ⟨madeCells z.cells (n * i0.size), fun W => ?_⟩
  have := run_make W T e i0 z ht hi hz0 .i64 .i64 (n : Int) (n : Int) (by omega) (by omega) (by
    rw [hz2]
    have : (bys : Int) * (n : Int) ≤ 1000 * 1000000 := Int.mul_le_mul (by omega) (by omega) (by omega) (by omega)
    omega) (by omega)
  simpa using this
theorem three (w : World) (X Y : Obj) (cs : Array Value) : (((w.alloc X).alloc Y).alloc (.cells cs 47)).heap[w.heap.size + 1 + 1]? = some (.cells cs 47 (0, 0)) ∧ Below w.heap.size w (((w.alloc X).alloc Y).alloc (.cells cs 47)) := by
  refine ⟨?_, (((Below.refl _ _).alloc (Nat.le_refl _) X).alloc (by simp) Y).alloc (by simp; omega) _⟩
  have := heap_alloc_new ((w.alloc X).alloc Y) (.cells cs 47)
  simpa using this
/-- append(nil, l...). -/
theorem app_nil (a : Option Addr) (cap : Nat) (l : List Bs) (w : World) (hp : Sts w a l.length l) (h0 : 0 < l.length) (hn : l.length ≤ 1000000) :
    ∃ V w', (Builtin.append_ #[28, 28] 28 #[.slice none 0 0, .slice a l.length cap]).run Try.prog w = .ok V w' ∧ (∃ p n c, V = .slice p n c) ∧ Below w.heap.size w w' ∧ w'.ownsRow 0 9 1 V l.length (l.map S) := by
  obtain ⟨i0, hi, hz0, hz1, hz2⟩ := info_parts info9
  obtain ⟨p, o, rfl, hc⟩ := hp.2 h0
  obtain ⟨v', w', hr, h2, h3, _, _⟩ := run_append_own_at (P := Try.prog) w 0 28 28 9 i0 _ 1 16 Try.underlying28 hi hz0 hz1 hz2 rfl (by decide) (.slice none 0 0) 0 [] (owns_nil _ _ _) ⟨p, o, none⟩ l.length cap (l.map S) (by simp) (by
    intro j u hj
    have hj1 : j < l.length := by have := (List.getElem?_eq_some_iff.1 hj).1; simpa using this
    rw [add_off, hc j hj1, ← hj]
    simp [hj1]) (by intro u hu; obtain ⟨x, _, rfl⟩ := List.mem_map.1 hu; rfl) (by unfold maxLen; omega) (by omega) (Nat.zero_le _)
  refine ⟨v', w', hr, ?_, (Below.refl _ _).grown h3 (Nat.le_refl _) (fun k e => by cases e), by simpa using h2⟩
  obtain ⟨q, c, e⟩ := owns_form h2
  exact ⟨q, _, c, e⟩
/-- The document's Load: whether it is a disk, and the error. -/
theorem rLoad_any (a : Option Addr) (n cap : Nat) (l : List Bs) (w : World) (hp : Sts w a n l) (hn : n ≤ 1000000000000) :
    Calls Try.prog 22 #[.slice a n cap] w fun e w' => (∃ v, e = .returned (.tuple #[v, I (loadv l)]) ∧ RL (loadv l) v) ∧ Below w.heap.size w w' := by
  have hN := hp.1
  subst hN
  have HP := hide hp
  clear hp
  generalize hr : loadv l = r
  have HR := hide hr
  clear hr
  by_cases hm : mayv (l.length : Int) = true
  · obtain ⟨m1, m2⟩ : (8 : Int) ≤ (l.length : Int) ∧ (l.length : Int) ≤ 4096 := by simpa [mayv] using hm
    have HM := hide hm
    clear hm
    go_enter Try.func22, Try.ntmps22
    go_wp2
    go_loopw [4] (fun i wr => ∃ k : Nat, k ≤ l.length ∧ i = .int .i64 k ∧ allR (l.take k) = true ∧ wr = w) (fun i _ => l.length - (Go.RowKit.intOf i).toNat)
    case atStart => exact ⟨0, by omega, rfl, rfl, rfl⟩
    case round =>
      obtain ⟨k, hk, rfl, ha, rfl⟩ := hrel
      by_cases hlt : k < l.length
      · obtain ⟨p, o, rfl, hpl, hc0⟩ := (unhide HP).at hlt
        have hlt' : (k : Int) < (l.length : Int) := by omega
        have HN := hide (allR_next l k hlt)
        have HW := hide (allR_bad l k hlt)
        generalize l.getD k [] = x at *
        have HA := hide ha
        clear ha
        by_cases hx : x.length = 512
        · have hx' : ((x.length : Nat) : Int) = 512 := by omega
          have HA2 := hide (show allR (l.take (k + 1)) = true by rw [unhide HN, unhide HA]; simp [hx])
          go_wp2
          go_round
          case measure => simp [Go.RowKit.intOf]; omega
          case rel => exact ⟨k + 1, by omega, by simp, unhide HA2, by first | trivial | rfl⟩
        · have hx' : ((x.length : Nat) : Int) ≠ 512 := by omega
          have HL := hide (loadv_bad (unhide HM) (unhide HW hx))
          go_wp2
          go_ret2
          obtain rfl : r = 81 := (unhide HR).symm.trans (unhide HL)
          exact ⟨⟨_, rfl, RL.err (by decide)⟩, Below.refl _ _⟩
      · have hlt' : ¬ (k : Int) < (l.length : Int) := by omega
        obtain rfl : k = l.length := by omega
        rw [List.take_of_length_le (Nat.le_refl _)] at ha
        have HL := hide (loadv_ok (unhide HM) ha)
        clear ha
        obtain ⟨A1, k1⟩ := run_mk 45 4 _ 1 1 Try.underlying45 info4 l.length (by omega) (by omega)
        obtain ⟨A2, k2⟩ := run_mk 28 9 _ 1 16 Try.underlying28 info9 l.length (by omega) (by omega)
        go_wp2
        go_region
        · obtain ⟨hx, hb⟩ := three wr (.cells A1 4) (.cells A2 9) #[Value.slice none 0 0, Value.slice (some ⟨wr.heap.size, 0, none⟩) l.length l.length, Value.slice (some ⟨wr.heap.size + 1, 0, none⟩) l.length l.length, Value.int .i64 0, Value.bool false, Value.int .i64 0]
          generalize hW : ((wr.alloc (.cells A1 4)).alloc (.cells A2 9)).alloc (.cells #[Value.slice none 0 0, Value.slice (some ⟨wr.heap.size, 0, none⟩) l.length l.length, Value.slice (some ⟨wr.heap.size + 1, 0, none⟩) l.length l.length, Value.int .i64 0, Value.bool false, Value.int .i64 0] 47) = W at hx hb ⊢
          have HB := hide hb
          have c0 : W.cell? ⟨wr.heap.size + 1 + 1, 0, none⟩ = some (.slice none 0 0) := cell_of_row W _ 0 _ 47 (0, 0) hx
          have hl := lt_of_row hx
          obtain ⟨V, w5, hr, hV, g5, x5⟩ := app_nil a cap l W.drew ((unhide HP).below (below_drew hb)) (by omega) (by omega)
          obtain ⟨p5, n5, c5, rfl⟩ := hV
          have x6 := (g5.block _ (lt_of_row hx)).trans hx
          have c6 : w5.cell? ⟨wr.heap.size + 1 + 1, 0, none⟩ = some (.slice none 0 0) := cell_of_row w5 _ 0 _ 47 (0, 0) x6
          have z6 := frz x6 0
          have hl6 := lt_of_row x6
          have HN := hide (((below_drew hb).trans (g5.mono hb.size)).setCell (p := ⟨wr.heap.size + 1 + 1, 0, none⟩) (by show wr.heap.size ≤ wr.heap.size + 1 + 1; omega) (Value.slice p5 n5 c5))
          clear hx hb hW g5 x5 x6
          go_wp2_with (at_builtin; refine Lib.wpList_append_run _ rfl _ _ _ _ rfl _ _ rfl rfl _ _ hr ?_)
          go_ret2
          obtain rfl : r = 0 := (unhide HR).symm.trans (unhide HL)
          exact ⟨⟨_, rfl, RL.ok _ rfl⟩, unhide HN⟩
        · obtain ⟨hx, hb⟩ := three wr (.cells A2 9) (.cells A1 4) #[Value.slice none 0 0, Value.slice (some ⟨wr.heap.size + 1, 0, none⟩) l.length l.length, Value.slice (some ⟨wr.heap.size, 0, none⟩) l.length l.length, Value.int .i64 0, Value.bool false, Value.int .i64 0]
          generalize hW : ((wr.alloc (.cells A2 9)).alloc (.cells A1 4)).alloc (.cells #[Value.slice none 0 0, Value.slice (some ⟨wr.heap.size + 1, 0, none⟩) l.length l.length, Value.slice (some ⟨wr.heap.size, 0, none⟩) l.length l.length, Value.int .i64 0, Value.bool false, Value.int .i64 0] 47) = W at hx hb ⊢
          have HB := hide hb
          have c0 : W.cell? ⟨wr.heap.size + 1 + 1, 0, none⟩ = some (.slice none 0 0) := cell_of_row W _ 0 _ 47 (0, 0) hx
          have hl := lt_of_row hx
          obtain ⟨V, w5, hr, hV, g5, x5⟩ := app_nil a cap l W.drew ((unhide HP).below (below_drew hb)) (by omega) (by omega)
          obtain ⟨p5, n5, c5, rfl⟩ := hV
          have x6 := (g5.block _ (lt_of_row hx)).trans hx
          have c6 : w5.cell? ⟨wr.heap.size + 1 + 1, 0, none⟩ = some (.slice none 0 0) := cell_of_row w5 _ 0 _ 47 (0, 0) x6
          have z6 := frz x6 0
          have hl6 := lt_of_row x6
          have HN := hide (((below_drew hb).trans (g5.mono hb.size)).setCell (p := ⟨wr.heap.size + 1 + 1, 0, none⟩) (by show wr.heap.size ≤ wr.heap.size + 1 + 1; omega) (Value.slice p5 n5 c5))
          clear hx hb hW g5 x5 x6
          go_wp2_with (at_builtin; refine Lib.wpList_append_run _ rfl _ _ _ _ rfl _ _ rfl rfl _ _ hr ?_)
          go_ret2
          obtain rfl : r = 0 := (unhide HR).symm.trans (unhide HL)
          exact ⟨⟨_, rfl, RL.ok _ rfl⟩, unhide HN⟩
  · have hm2 : mayv (l.length : Int) = false := by simpa using hm
    have HL := hide (loadv_may hm2)
    have hc : (l.length : Int) < 8 ∨ 4096 < (l.length : Int) := by
      simp [mayv] at hm2
      omega
    clear hm hm2
    rcases hc with hc | hc
    · go_enter Try.func22, Try.ntmps22
      go_wp2
      go_ret2
      obtain rfl : r = 1 := (unhide HR).symm.trans (unhide HL)
      exact ⟨⟨_, rfl, RL.err (by decide)⟩, Below.refl _ _⟩
    · have hc2 : ¬ (l.length : Int) < 8 := by omega
      go_enter Try.func22, Try.ntmps22
      go_wp2
      go_ret2
      obtain rfl : r = 1 := (unhide HR).symm.trans (unhide HL)
      exact ⟨⟨_, rfl, RL.err (by decide)⟩, Below.refl _ _⟩
end Go.Proofs.Ytpelmacblglhoaa
namespace Go.Proofs.Ytpelmacblglhoaa
open Go.RowKit
set_option maxHeartbeats 4000000
set_option maxRecDepth 8000
def newv (n : Int) : Int := if mayv n then 0 else 1
/-- Texts in a row of one's own, none of it old. -/
structure Ows (w : World) (V : Value) (l : List Bs) (wr : World) : Prop where
  row : wr.ownsRow 0 9 1 V l.length (l.map S)
  new : ∀ k, V.ownBlock = some k → w.heap.size ≤ k
  bel : Below w.heap.size w wr
theorem Ows.nil (w : World) : Ows w (.slice none 0 0) [] w := ⟨owns_nil _ _ _, (fun _ h => nomatch h), Below.refl _ _⟩
theorem Ows.below {w wr w' : World} {V : Value} {l : List Bs} (h : Ows w V l wr) (hb : Below wr.heap.size wr w') : Ows w V l w' :=
  ⟨owns_below h.row hb, h.new, h.bel.trans (hb.mono h.bel.size)⟩
theorem wp_pushS {ops : Array Oper} {rest : List Oper} {o : Oper} {ac : Act} {Q : Exit → Act → World → Prop} {w wr : World} {V : Value} {l : List Bs} {x : Bs} (hgd : o.guard = none) (p q : Operand) (ho : o.op = .call { callee := .builtin .append, args := #[p, q], argTypes := #[28, 28] })
    (hp : ac.eval p = V) (hq : ac.eval q = .slice (some ⟨wr.heap.size, 0, none⟩) 1 1) (h : Ows w V l wr) (hs : l.length ≤ 1000000000)
    (hn : ∀ V' w', Ows w V' (l ++ [x]) w' → wpList Try.prog ops Q rest (ac.put o.dst V') w') : wpList Try.prog ops Q (o :: rest) ac (wr.alloc (.cells #[S x] 9)) := by
  refine push_own 28 9 _ 1 16 Try.underlying28 info9 rfl (by decide) hgd p q ho V l.length (l.map S) hp wr h.row [S x] rfl (by intro u hu; obtain rfl := List.mem_singleton.1 hu; rfl) hq (by omega) (by omega) ?_
  intro pp cap w' r1 r2 r3
  refine hn _ w' ⟨?_, fun k hk => ?_, r2.below h.bel h.bel.size h.new⟩
  · rw [List.length_append, List.map_append]; exact r1
  · rcases r3 k hk with r | r
    · exact h.new k r
    · exact Nat.le_trans h.bel.size r
theorem zs_len : zs.length = 512 := by simp [zs]
theorem zs_text {w : World} {g : Nat} (h : w.ownsRow 0 5 1 (.slice (some ⟨g, 0, none⟩) 512 512) 512 (List.replicate 512 (B 0))) : (convert 63 9 (.slice (some ⟨g, 0, none⟩) 512 512)).run Try.prog w = .ok (S zs) w := by
  have := text_of (X := zs) (w := w) (g := g) (by rw [zs_len]; simpa [zs] using h)
  rwa [zs_len] at this
theorem allR_zs (n : Nat) : allR (List.replicate n zs) = true := by
  unfold allR
  rw [List.all_eq_true]
  intro x hx
  rw [(List.mem_replicate.1 hx).2]
  simp [zs_len]
theorem rNew_any (n : Int) (w : World) : Calls Try.prog 19 #[I n] w fun e w' => (∃ v, e = .returned (.tuple #[v, I (newv n)]) ∧ RL (newv n) v) ∧ Below w.heap.size w w' := by
  generalize hr : newv n = r
  have HR := hide hr
  clear hr
  by_cases hm : mayv n = true
  · obtain ⟨m1, m2⟩ : 8 ≤ n ∧ n ≤ 4096 := by simpa [mayv] using hm
    have HN := hide (show newv n = 0 by simp [newv, hm])
    have HM := hide hm
    clear hm
    obtain ⟨c, rfl⟩ : ∃ c : Nat, n = (c : Int) := ⟨n.toNat, by omega⟩
    go_enter Try.func19, Try.ntmps19
    go_wp2
    go_loopw [4, 5] (fun V i wr => ∃ k : Nat, k ≤ c ∧ i = .int .i64 k ∧ Ows w V (List.replicate k zs) wr) (fun _ i _ => c - (Go.RowKit.intOf i).toNat)
    case atStart => exact ⟨0, by omega, rfl, Ows.nil w⟩
    case round =>
      obtain ⟨k, hk, rfl, ho⟩ := hrel
      have HO := hide ho
      clear ho
      by_cases hlt : k < c
      · have hlt' : (k : Int) < (c : Int) := by omega
        go_wp2_with (first
          | (refine make_own 63 5 _ 1 1 Try.underlying63 info5 rfl (.const (.int .i64 512)) (.const (.int .i64 512)) rfl _ _ 512 rfl rfl rfl rfl (by omega) (by omega) ?_; intro w1 ho1 b1 _; rw [made5] at ho1; have HT := hide (zs_text ho1); have HO1 := hide ((unhide HO).below b1); clear ho1 b1)
          | (refine wpList_conv rfl 63 9 (.tmp 18) rfl _ _ (by rfl) (unhide HT) ?_)
          | (at_builtin; refine wp_pushS (x := zs) rfl (.tmp 17) (.tmp 20) rfl (by rfl) (by rfl) (unhide HO1) (by simp; omega) ?_; intro V' w3 hw3; have HO3 := hide hw3; clear hw3))
        go_round
        case measure => simp [Go.RowKit.intOf]; omega
        case rel => exact ⟨k + 1, by omega, by simp, by rw [List.replicate_succ']; exact unhide HO3⟩
      · have hlt' : ¬ (k : Int) < (c : Int) := by omega
        obtain rfl : k = c := by omega
        obtain ⟨p, cap, e, hs, _⟩ := Sts.of (unhide HO).row
        have hL : loadv (List.replicate k zs) = 0 := loadv_ok (by simpa using unhide HM) (allR_zs k)
        have h1 := rLoad_any p _ cap _ wr hs (by simp; omega)
        rw [hL] at h1
        rw [List.length_replicate] at h1 e
        subst e
        have H1 := hide h1
        have HB := hide (unhide HO).bel
        clear h1 hs HO
        go_wp2_with fail
        refine (unhide H1).mono ?_
        rintro e w2 ⟨⟨v, rfl, hv⟩, b2⟩
        obtain ⟨g, rfl⟩ := hv.1 rfl
        have HB2 := hide ((unhide HB).trans (b2.mono (unhide HB).size))
        clear b2 hv
        go_wp2
        go_ret2
        obtain rfl : r = 0 := (unhide HR).symm.trans (unhide HN)
        exact ⟨⟨_, rfl, RL.ok g rfl⟩, unhide HB2⟩
  · have hm2 : mayv n = false := by simpa using hm
    have HN := hide (show newv n = 1 by simp [newv, hm2])
    have hc : n < 8 ∨ 4096 < n := by
      simp [mayv] at hm2
      omega
    clear hm hm2
    rcases hc with hc | hc
    · go_enter Try.func19, Try.ntmps19
      go_wp2
      go_ret2
      obtain rfl : r = 1 := (unhide HR).symm.trans (unhide HN)
      exact ⟨⟨_, rfl, RL.err (by decide)⟩, Below.refl _ _⟩
    · have hc2 : ¬ n < 8 := by omega
      go_enter Try.func19, Try.ntmps19
      go_wp2
      go_ret2
      obtain rfl : r = 1 := (unhide HR).symm.trans (unhide HN)
      exact ⟨⟨_, rfl, RL.err (by decide)⟩, Below.refl _ _⟩
end Go.Proofs.Ytpelmacblglhoaa
