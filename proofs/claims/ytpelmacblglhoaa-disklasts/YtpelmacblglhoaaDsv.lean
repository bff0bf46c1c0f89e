import Derived.Test.YtpelmacblglhoaaDsu
import Derived.Test.YtpelmacblglhoaaDsf
namespace Go.Proofs.Ytpelmacblglhoaa
open Go.RowKit
set_option maxHeartbeats 4000000
set_option maxRecDepth 8000
theorem loadv_may {l : List Bs} (h : mayv l.length = false) : loadv l = 1 := by simp [loadv, h]
theorem loadv_bad {l : List Bs} (h : mayv l.length = true) (h2 : allR l = false) : loadv l = 81 := by simp [loadv, h, h2]
theorem loadv_ok {l : List Bs} (h : mayv l.length = true) (h2 : allR l = true) : loadv l = 0 := by simp [loadv, h, h2]
/-- A disk, or none beside an error. -/
def RL (r : Int) (v : Value) : Prop := (r = 0 → ∃ g, v = ptr g) ∧ (r ≠ 0 → v = .pointer none)
theorem RL.err {r : Int} (h : r ≠ 0) : RL r (.pointer none) := ⟨fun q => absurd q h, fun _ => rfl⟩
theorem RL.ok {r : Int} (g : Nat) (h : r = 0) : RL r (ptr g) := ⟨fun _ => ⟨g, rfl⟩, fun q => absurd h q⟩
theorem run_mk (T e : TypeId) (z : Value) (sz bys : Nat) (ht : Try.prog.underlying T = some (.slice e)) (hinfo : (Try.prog.info? e).map (fun i => (i.zero, i.size, i.bytes)) = some (some z, sz, bys)) (n : Nat) (hn : n ≤ 1000000) (hb : bys ≤ 1000) :
    ∃ A : Array Value, ∀ W, (Instr.makeSlice T (.int .i64 (n : Int)) (.int .i64 (n : Int))).run Try.prog W = .ok (.slice (some ⟨W.heap.size, 0, none⟩) n n) (W.alloc (.cells A e)) := by
  obtain ⟨i0, hi, hz0, hz1, hz2⟩ := info_parts hinfo
  refine ⟨madeCells z.cells (n * i0.size), fun W => ?_⟩
  have := run_make W T e i0 z ht hi hz0 .i64 .i64 (n : Int) (n : Int) (by omega) (by omega) (by
    rw [hz2]
    have : (bys : Int) * (n : Int) ≤ 1000 * 1000000 := Int.mul_le_mul (by omega) (by omega) (by omega) (by omega)
    omega) (by omega)
  simpa using this
theorem three (w : World) (X Y : Obj) (cs : Array Value) : (((w.alloc X).alloc Y).alloc (.cells cs 47)).heap[w.heap.size + 1 + 1]? = some (.cells cs 47 (0, 0)) ∧ Below w.heap.size w (((w.alloc X).alloc Y).alloc (.cells cs 47)) := by
  refine ⟨?_, (((Below.refl _ _).alloc (Nat.le_refl _) X).alloc (by simp) Y).alloc (by simp; omega) _⟩
  have := heap_alloc_new ((w.alloc X).alloc Y) (.cells cs 47)
  simpa using this
/-- append(nil, l...). -/
theorem app_nil (a : Option Addr) (cap : Nat) (l : List Bs) (w : World) (hp : Sts w a l.length l) (h0 : 0 < l.length) (hn : l.length ≤ 1000000) :
    ∃ V w', (Builtin.append_ #[28, 28] 28 #[.slice none 0 0, .slice a l.length cap]).run Try.prog w = .ok V w' ∧ (∃ p n c, V = .slice p n c) ∧ Below w.heap.size w w' ∧ w'.ownsRow 0 9 1 V l.length (l.map S) := by
  obtain ⟨i0, hi, hz0, hz1, hz2⟩ := info_parts info9
  obtain ⟨p, o, rfl, hc⟩ := hp.2 h0
  obtain ⟨v', w', hr, h2, h3, _, _⟩ := run_append_own_at (P := Try.prog) w 0 28 28 9 i0 _ 1 16 Try.underlying28 hi hz0 hz1 hz2 rfl (by decide) (.slice none 0 0) 0 [] (owns_nil _ _ _) ⟨p, o, none⟩ l.length cap (l.map S) (by simp) (by
    intro j u hj
    have hj1 : j < l.length := by have := (List.getElem?_eq_some_iff.1 hj).1; simpa using this
    rw [add_off, hc j hj1, ← hj]
    simp [hj1]) (by intro u hu; obtain ⟨x, _, rfl⟩ := List.mem_map.1 hu; rfl) (by unfold maxLen; omega) (by omega) (Nat.zero_le _)
  refine ⟨v', w', hr, ?_, (Below.refl _ _).grown h3 (Nat.le_refl _) (fun k e => by cases e), by simpa using h2⟩
  obtain ⟨q, c, e⟩ := owns_form h2
  exact ⟨q, _, c, e⟩
/-- The document's Load: whether it is a disk, and the error. -/
theorem rLoad_any (a : Option Addr) (n cap : Nat) (l : List Bs) (w : World) (hp : Sts w a n l) (hn : n ≤ 1000000000000) :
    Calls Try.prog 22 #[.slice a n cap] w fun e w' => (∃ v, e = .returned (.tuple #[v, I (loadv l)]) ∧ RL (loadv l) v) ∧ Below w.heap.size w w' := by
  have hN := hp.1
  subst hN
  have HP := hide hp
  clear hp
  generalize hr : loadv l = r
  have HR := hide hr
  clear hr
  by_cases hm : mayv (l.length : Int) = true
  · obtain ⟨m1, m2⟩ : (8 : Int) ≤ (l.length : Int) ∧ (l.length : Int) ≤ 4096 := by simpa [mayv] using hm
    have HM := hide hm
    clear hm
    go_enter Try.func22, Try.ntmps22
    go_wp2
    go_loopw [4] (fun i wr => ∃ k : Nat, k ≤ l.length ∧ i = .int .i64 k ∧ allR (l.take k) = true ∧ wr = w) (fun i _ => l.length - (Go.RowKit.intOf i).toNat)
    case atStart => exact ⟨0, by omega, rfl, rfl, rfl⟩
    case round =>
      obtain ⟨k, hk, rfl, ha, rfl⟩ := hrel
      by_cases hlt : k < l.length
      · obtain ⟨p, o, rfl, hpl, hc0⟩ := (unhide HP).at hlt
        have hlt' : (k : Int) < (l.length : Int) := by omega
        have HN := hide (allR_next l k hlt)
        have HW := hide (allR_bad l k hlt)
        generalize l.getD k [] = x at *
        have HA := hide ha
        clear ha
        by_cases hx : x.length = 512
        · have hx' : ((x.length : Nat) : Int) = 512 := by omega
          have HA2 := hide (show allR (l.take (k + 1)) = true by rw [unhide HN, unhide HA]; simp [hx])
          go_wp2
          go_round
          case measure => simp [Go.RowKit.intOf]; omega
          case rel => exact ⟨k + 1, by omega, by simp, unhide HA2, by first | trivial | rfl⟩
        · have hx' : ((x.length : Nat) : Int) ≠ 512 := by omega
          have HL := hide (loadv_bad (unhide HM) (unhide HW hx))
          go_wp2
          go_ret2
          obtain rfl : r = 81 := (unhide HR).symm.trans (unhide HL)
          exact ⟨⟨_, rfl, RL.err (by decide)⟩, Below.refl _ _⟩
      · have hlt' : ¬ (k : Int) < (l.length : Int) := by omega
        obtain rfl : k = l.length := by omega
        rw [List.take_of_length_le (Nat.le_refl _)] at ha
        have HL := hide (loadv_ok (unhide HM) ha)
        clear ha
        obtain ⟨A1, k1⟩ := run_mk 45 4 _ 1 1 Try.underlying45 info4 l.length (by omega) (by omega)
        obtain ⟨A2, k2⟩ := run_mk 28 9 _ 1 16 Try.underlying28 info9 l.length (by omega) (by omega)
        go_wp2
        go_region
        · obtain ⟨hx, hb⟩ := three wr (.cells A1 4) (.cells A2 9) #[Value.slice none 0 0, Value.slice (some ⟨wr.heap.size, 0, none⟩) l.length l.length, Value.slice (some ⟨wr.heap.size + 1, 0, none⟩) l.length l.length, Value.int .i64 0, Value.bool false, Value.int .i64 0]
          generalize hW : ((wr.alloc (.cells A1 4)).alloc (.cells A2 9)).alloc (.cells #[Value.slice none 0 0, Value.slice (some ⟨wr.heap.size, 0, none⟩) l.length l.length, Value.slice (some ⟨wr.heap.size + 1, 0, none⟩) l.length l.length, Value.int .i64 0, Value.bool false, Value.int .i64 0] 47) = W at hx hb ⊢
          have HB := hide hb
          have c0 : W.cell? ⟨wr.heap.size + 1 + 1, 0, none⟩ = some (.slice none 0 0) := cell_of_row W _ 0 _ 47 (0, 0) hx
          have hl := lt_of_row hx
          obtain ⟨V, w5, hr, hV, g5, x5⟩ := app_nil a cap l W.drew ((unhide HP).below (below_drew hb)) (by omega) (by omega)
          obtain ⟨p5, n5, c5, rfl⟩ := hV
          have x6 := (g5.block _ (lt_of_row hx)).trans hx
          have c6 : w5.cell? ⟨wr.heap.size + 1 + 1, 0, none⟩ = some (.slice none 0 0) := cell_of_row w5 _ 0 _ 47 (0, 0) x6
          have z6 := frz x6 0
          have hl6 := lt_of_row x6
          have HN := hide (((below_drew hb).trans (g5.mono hb.size)).setCell (p := ⟨wr.heap.size + 1 + 1, 0, none⟩) (by show wr.heap.size ≤ wr.heap.size + 1 + 1; omega) (Value.slice p5 n5 c5))
          clear hx hb hW g5 x5 x6
          go_wp2_with (at_builtin; refine Lib.wpList_append_run _ rfl _ _ _ _ rfl _ _ rfl rfl _ _ hr ?_)
          go_ret2
          obtain rfl : r = 0 := (unhide HR).symm.trans (unhide HL)
          exact ⟨⟨_, rfl, RL.ok _ rfl⟩, unhide HN⟩
        · obtain ⟨hx, hb⟩ := three wr (.cells A2 9) (.cells A1 4) #[Value.slice none 0 0, Value.slice (some ⟨wr.heap.size + 1, 0, none⟩) l.length l.length, Value.slice (some ⟨wr.heap.size, 0, none⟩) l.length l.length, Value.int .i64 0, Value.bool false, Value.int .i64 0]
          generalize hW : ((wr.alloc (.cells A2 9)).alloc (.cells A1 4)).alloc (.cells #[Value.slice none 0 0, Value.slice (some ⟨wr.heap.size + 1, 0, none⟩) l.length l.length, Value.slice (some ⟨wr.heap.size, 0, none⟩) l.length l.length, Value.int .i64 0, Value.bool false, Value.int .i64 0] 47) = W at hx hb ⊢
          have HB := hide hb
          have c0 : W.cell? ⟨wr.heap.size + 1 + 1, 0, none⟩ = some (.slice none 0 0) := cell_of_row W _ 0 _ 47 (0, 0) hx
          have hl := lt_of_row hx
          obtain ⟨V, w5, hr, hV, g5, x5⟩ := app_nil a cap l W.drew ((unhide HP).below (below_drew hb)) (by omega) (by omega)
          obtain ⟨p5, n5, c5, rfl⟩ := hV
          have x6 := (g5.block _ (lt_of_row hx)).trans hx
          have c6 : w5.cell? ⟨wr.heap.size + 1 + 1, 0, none⟩ = some (.slice none 0 0) := cell_of_row w5 _ 0 _ 47 (0, 0) x6
          have z6 := frz x6 0
          have hl6 := lt_of_row x6
          have HN := hide (((below_drew hb).trans (g5.mono hb.size)).setCell (p := ⟨wr.heap.size + 1 + 1, 0, none⟩) (by show wr.heap.size ≤ wr.heap.size + 1 + 1; omega) (Value.slice p5 n5 c5))
          clear hx hb hW g5 x5 x6
          go_wp2_with (at_builtin; refine Lib.wpList_append_run _ rfl _ _ _ _ rfl _ _ rfl rfl _ _ hr ?_)
          go_ret2
          obtain rfl : r = 0 := (unhide HR).symm.trans (unhide HL)
          exact ⟨⟨_, rfl, RL.ok _ rfl⟩, unhide HN⟩
  · have hm2 : mayv (l.length : Int) = false := by simpa using hm
    have HL := hide (loadv_may hm2)
    have hc : (l.length : Int) < 8 ∨ 4096 < (l.length : Int) := by
      simp [mayv] at hm2
      omega
    clear hm hm2
    rcases hc with hc | hc
    · go_enter Try.func22, Try.ntmps22
      go_wp2
      go_ret2
      obtain rfl : r = 1 := (unhide HR).symm.trans (unhide HL)
      exact ⟨⟨_, rfl, RL.err (by decide)⟩, Below.refl _ _⟩
    · have hc2 : ¬ (l.length : Int) < 8 := by omega
      go_enter Try.func22, Try.ntmps22
      go_wp2
      go_ret2
      obtain rfl : r = 1 := (unhide HR).symm.trans (unhide HL)
      exact ⟨⟨_, rfl, RL.err (by decide)⟩, Below.refl _ _⟩
end Go.Proofs.Ytpelmacblglhoaa
