import Derived.Test.YtjopnhhdemfniaaGreatDoorZqbn
import Derived.Test.YtjopnhhdemfniaaGreatDoorRgqc
import Derived.Test.YtjopnhhdemfniaaGreatDoorZpme
import Derived.Test.YtjopnhhdemfniaaGreatDoorZpis
import Derived.Test.YtjopnhhdemfniaaGreatDoorZpic
/- Pieces of the law's body. -/
namespace Go.Proofs.YtjopnhhdemfniaaGreatDoor
open Go.RowKit
set_option maxHeartbeats 4000000
theorem info94s : (Tryz.prog.info? 94).map (·.size) = some 4 := by kernel_rfl
theorem wp_st94 {ops : Array Oper} {rest : List Oper} {o : Oper} {a : Act} {w : World} {Q : Exit → Act → World → Prop} (hgd : o.guard = none) (x y : Operand) (ho : o.op = .store 94 x y)
    (P : Nat) (hx : a.eval x = .pointer (some ⟨P, 0, none⟩)) (g r b s : Int) (hy : a.eval y = .agg #[I g, I r, I b, I s]) (old : Array Value) (ho5 : old.size = 4)
    (hg : w.heap[P]? = some (.cells old 94 (0, 0)))
    (h : wpList Tryz.prog ops Q rest (a.put o.dst undef) (w.setRow P #[I g, I r, I b, I s])) : wpList Tryz.prog ops Q (o :: rest) a w :=
  wpList_store_row hgd 94 x y ho P _ hx hy 94 old hg info94s (by rw [ho5]; rfl) (by simp [Value.oneCell']) h
theorem s_x64 (g n cap k : Nat) (hk : k < n) {w : World} : (Instr.indexAt 64 (.slice (some ⟨g, 0, none⟩) n cap) (.int .i64 (k : Int))).run Tryz.prog w = .ok (.pointer (some ⟨g, 0 + k, none⟩)) w := by
  have h1 : (k : Int) < (n : Int) := by omega
  have u := Tryz.underlying64
  simp [go_sem, u, h1]
theorem s_neS (x y : Operand) (s : Bs) {w : World} : (do eqGuard .neq 9 x y (S s) (S s); binOp .neq 9 (S s) (S s) : Sem Value).run Tryz.prog w = .ok (.bool false) w := by
  simp [eqGuard, binOp, go_sem, Op.stringOp]
/-- What is held and what is reached, in one list. -/
structure B18 (wr : World) (H G : List Int) (c : C3) (L : Nat → Bool) (W : World) : Prop where
  be : Below wr.heap.size wr W
  na : ∀ k, c.a.ownBlock = some k → wr.heap.size ≤ k
  ra : L 3 = true → L 7 = false → W.ownsRow 0 3 1 c.a H.length (H.map fun z => I z)
  rb : L 6 = true → L 7 = false → W.ownsRow 0 3 1 c.b G.length (G.map fun z => I z)
  rv : L 7 = true → L 3 = true ∧ L 6 = true ∧ W.ownsRow 0 3 1 c.v (H ++ G).length ((H ++ G).map fun z => I z) ∧ ∀ k, c.v.ownBlock = some k → wr.heap.size ≤ k
  p8 : L 8 = true → L 7 = true
variable {wr : World} {H G : List Int} {c : C3} {L : Nat → Bool} {W : World}
theorem B18.start (wr : World) (H G : List Int) : B18 wr H G ⟨undef, undef, undef⟩ (fun _ => false) wr.drew :=
  ⟨(Below.refl _ _).drew, (fun _ q => nomatch q), (fun q => nomatch q), (fun q => nomatch q), (fun q => nomatch q), (fun q => nomatch q)⟩
theorem B18.pure (h : B18 wr H G c L W) {i : Nat} (h3 : i ≠ 3) (h6 : i ≠ 6) (h7 : i ≠ 7) (h8 : i ≠ 8) : B18 wr H G c (upd L i) W := by
  refine ⟨h.be, h.na, ?_, ?_, ?_, ?_⟩
  · rw [upd_ne (Ne.symm h3), upd_ne (Ne.symm h7)]; exact h.ra
  · rw [upd_ne (Ne.symm h6), upd_ne (Ne.symm h7)]; exact h.rb
  · rw [upd_ne (Ne.symm h3), upd_ne (Ne.symm h6), upd_ne (Ne.symm h7)]; exact h.rv
  · rw [upd_ne (Ne.symm h7), upd_ne (Ne.symm h8)]; exact h.p8
theorem B18.eight (h : B18 wr H G c L W) (h7 : L 7 = true) : B18 wr H G c (upd L 8) W := by
  refine ⟨h.be, h.na, ?_, ?_, ?_, fun _ => upd_tr 8 h7⟩
  · rw [upd_ne (by decide), upd_ne (by decide)]; exact h.ra
  · rw [upd_ne (by decide), upd_ne (by decide)]; exact h.rb
  · rw [upd_ne (by decide), upd_ne (by decide), upd_ne (by decide)]; exact h.rv
theorem B18.three (h : B18 wr H G c L W) (hl : L 3 = false) {V : Value} {W' : World} (b : Below W.heap.size W W') (r : W'.ownsRow 0 3 1 V H.length (H.map fun z => I z)) (n : ∀ k, V.ownBlock = some k → W.heap.size ≤ k) : B18 wr H G ⟨V, c.b, c.v⟩ (upd L 3) W' := by
  have h7 : L 7 = false := by
    cases q : L 7
    · rfl
    · rw [(h.rv q).1] at hl; cases hl
  refine ⟨h.be.trans (b.mono h.be.size), fun k hk => Nat.le_trans h.be.size (n k hk), fun _ _ => r, ?_, ?_, ?_⟩
  · rw [upd_ne (by decide), upd_ne (by decide)]; exact fun q1 q2 => owns_below (h.rb q1 q2) b
  · rw [upd_ne (by decide), h7]; exact fun q => nomatch q
  · rw [upd_ne (by decide), upd_ne (by decide)]; exact h.p8
theorem B18.six (h : B18 wr H G c L W) (hl : L 6 = false) {V : Value} {W' : World} (b : Below W.heap.size W W') (r : W'.ownsRow 0 3 1 V G.length (G.map fun z => I z)) : B18 wr H G ⟨c.a, V, c.v⟩ (upd L 6) W' := by
  have h7 : L 7 = false := by
    cases q : L 7
    · rfl
    · rw [(h.rv q).2.1] at hl; cases hl
  refine ⟨h.be.trans (b.mono h.be.size), h.na, ?_, fun _ _ => r, ?_, ?_⟩
  · rw [upd_ne (by decide), upd_ne (by decide)]; exact fun q1 q2 => owns_below (h.ra q1 q2) b
  · rw [upd_ne (by decide), h7]; exact fun q => nomatch q
  · rw [upd_ne (by decide), upd_ne (by decide)]; exact h.p8
theorem app22_e (T : TypeId) (p q : Option Addr) (n cap c : Nat) (h : n ≤ cap) (w : World) : (Builtin.append_ #[22, 22] T #[.slice p n cap, .slice q 0 c]).run Tryz.prog w = .ok (.slice p n cap) w := by
  have z := Tryz.sizeOf3
  cases p <;> cases q <;> simp [Builtin.append_, go_sem, z, h, Builtin.lenOf, Builtin.firstCells, loadCells, storeCells]
theorem B18.seven (h : B18 wr H G c L W) (h7 : L 7 = false) (h3 : L 3 = true) (h6 : L 6 = true) (T : TypeId) (hn : H.length + G.length ≤ 1000000) :
    ∃ v' W', (Builtin.append_ #[22, 22] T #[c.a, c.b]).run Tryz.prog W = .ok v' W' ∧ B18 wr H G ⟨c.a, c.b, v'⟩ (upd L 7) W' := by
  have ra := h.ra h3 h7
  have rb := h.rb h6 h7
  obtain ⟨pb, cb, eb⟩ := owns_form rb
  by_cases h0 : G.length = 0
  · have e : G = [] := List.length_eq_zero_iff.1 h0
    subst e
    have hv : ∃ p cap, c.a = .slice p H.length cap ∧ H.length ≤ cap := by
      rcases ra.2 with ⟨e, q⟩ | ⟨g, cap, cur, e1, _, e2, e3, _⟩
      · exact ⟨none, 0, by rw [e, q], by omega⟩
      · exact ⟨_, cap, e1, e3⟩
    obtain ⟨p, cap, e, hc⟩ := hv
    refine ⟨c.a, W, by rw [eb, e]; exact app22_e T p pb H.length cap cb hc W, ⟨h.be, h.na, ?_, ?_, fun _ => ⟨upd_tr 7 h3, upd_tr 7 h6, by rw [List.append_nil]; exact ra, h.na⟩, fun _ => upd_self _ _⟩⟩
    · intro _ q; rw [upd_self] at q; cases q
    · intro _ q; rw [upd_self] at q; cases q
  · obtain ⟨gb, capb, curb, eb2, _⟩ := owns_at rb (by omega)
    obtain ⟨i0, hi, hz0, hz1, hz2⟩ := info_parts info3
    obtain ⟨v', w', hr, k2, k3, _, k5⟩ := run_append_own_at (P := Tryz.prog) W 0 22 T 3 i0 _ 1 8 Tryz.underlying22 hi hz0 hz1 hz2 rfl (by decide) c.a H.length (H.map fun z => I z) ra ⟨gb, 0, none⟩ G.length capb (G.map fun z => I z) (by simp) (fun j u hj => World.ownsRow.cells rb (g := gb) (by rw [eb2]; rfl) j u hj) (by intro u hu; obtain ⟨z, _, rfl⟩ := List.mem_map.1 hu; rfl) (by unfold maxLen; omega) (by omega) (Nat.zero_le _)
    have o := Only.of_grown k3
    refine ⟨v', w', by rw [eb2]; exact hr, ⟨o.below h.be h.be.size (fun k hk => h.na k hk), h.na, ?_, ?_, fun _ => ⟨upd_tr 7 h3, upd_tr 7 h6, by rw [List.length_append, List.map_append]; exact k2, ?_⟩, fun _ => upd_self _ _⟩⟩
    · intro _ q; rw [upd_self] at q; cases q
    · intro _ q; rw [upd_self] at q; cases q
    · intro k hk
      rcases k5 with k5 | k5
      · rw [k5] at hk; exact h.na k hk
      · rw [hk] at k5; have := Option.some.inj k5; have := h.be.size; omega
end Go.Proofs.YtjopnhhdemfniaaGreatDoor
