import Derived.Test.YthlacailhfhjnaaGreatDoorWjc
import Derived.Test.YthlacailhfhjnaaGreatDoorWjm
import Derived.Test.YthlacailhfhjnaaGreatDoorRgu
import Derived.Test.YthlacailhfhjnaaGreatDoorWcp
namespace Go.Proofs.YthlacailhfhjnaaGreatDoor
open Go.RowKit Go.Lib
section
variable {w : World}
theorem s_ld {T : TypeId} (hA : ∀ w, (isAgg T).run Tryz.prog w = .ok false w) {p : Addr} {v : Value} (h : w.cell? p = some v) : (Instr.loadAt T (.pointer (some p))).run Tryz.prog w = .ok v w := by
  simp [Instr.loadAt, go_sem, h, hA]
theorem s_sta {T : TypeId} {n : Nat} (hs : ∀ w, (sizeOf T).run Tryz.prog w = .ok n w) {g o : Nat} {cur : Array Value} {t : TypeId} (hg : w.heap[g]? = some (.cells cur t (0, 0))) (v : Value) (hn : v.cells.size = n) (hle : o + n ≤ cur.size) (h1 : ∀ x ∈ v.cells.toList, x.oneCell' = true) : (Instr.storeAt T (.pointer (some ⟨g, o, none⟩)) v).run Tryz.prog w = .ok () (w.setRow g (cur.toList.take o ++ v.cells.toList ++ cur.toList.drop (o + n)).toArray) := by
  have hst := run_storeCells_at Tryz.prog g o t v.cells.toList 0 cur w hg (by simp [hn]; omega) h1
  simp only [Nat.add_zero, Array.length_toList, hn] at hst
  simp [Instr.storeAt, Instr.sureAddr, storeVar, hs, hn, hst, Result.andThen]
theorem s_ix51 (g n cap k : Nat) (hk : k < n) : (Instr.indexAt 51 (.slice (some ⟨g, 0, none⟩) n cap) (.int .i64 (k : Int))).run Tryz.prog w = .ok (.pointer (some ⟨g, 0 + k, none⟩)) w := by
  have h1 : (k : Int) < (n : Int) := by omega
  have u := Tryz.underlying51
  have z := Tryz.sizeOf54
  simp [go_sem, u, z, h1]
theorem s_ix54 (g n cap k : Nat) (hk : k < n) : (Instr.indexAt 54 (.slice (some ⟨g, 0, none⟩) n cap) (.int .i64 (k : Int))).run Tryz.prog w = .ok (.pointer (some ⟨g, k * 4, none⟩)) w := by
  have h1 : (k : Int) < (n : Int) := by omega
  have u := Tryz.underlying54
  have z := Tryz.sizeOf24
  simp [go_sem, u, z, h1]
theorem s_fld (x y : Value) : (Instr.field 35 (.agg #[x, y]) 1).run Tryz.prog w = .ok y w := by kernel_rfl
theorem s_bld24 (b : Bs) : (Instr.build 24 #[(3, S b)]).run Tryz.prog w = .ok (.agg #[S [], S [], .slice none 0 0, S b]) w := by kernel_rfl
theorem s_quo (x y : Operand) (r : Nat) (h : r < 1000000000000) : (do eqGuard .quo 3 x y (.int .i64 (r : Int)) (.int .i64 8); binOp .quo 3 (.int .i64 (r : Int)) (.int .i64 8) : Sem Value).run Tryz.prog w = .ok (.int .i64 ((r / 8 : Nat) : Int)) w := by
  have q : IntKind.i64.wrap ((r : Int) / 8) = (r : Int) / 8 := by rw [IntKind.wrap_i64]; omega
  simp [go_sem, eqGuard, q]
theorem s_neqS (x y : Operand) (b : Bs) : (do eqGuard .neq 9 x y (S b) (S b); binOp .neq 9 (S b) (S b) : Sem Value).run Tryz.prog w = .ok (.bool false) w := by
  simp [go_sem, eqGuard]
end
theorem setRow_sz (w : World) (g : Nat) (cs : Array Value) : (w.setRow g cs).heap.size = w.heap.size := by simp [World.setRow]
theorem KpM.row {B Z g : Nat} {w w' : World} (h : KpM B Z w w') {cur : Array Value} (hg : w'.heap[g]? = some (.cells cur 24 (0, 0))) (hB : B ≤ g) (cs : Array Value) : KpM B Z w (w'.setRow g cs) :=
  h.trans ⟨rfl, rfl, rfl, by rw [setRow_sz]; exact Nat.le_refl _, fun k hk => setRow_other _ _ _ _ (by omega), fun k c e he n1 _ _ => setRow_other _ _ _ _ (fun q => by subst q; rw [hg] at he; cases he; exact n1 rfl)⟩
/-- What holds while a mark is laid. -/
def Wdm4 (wr : World) (g : Nat) (cur : Array Value) (k i : Nat) (_ : Unit) (L : Nat → Bool) (W : World) : Prop :=
  (L 13 = false ∧ Below wr.heap.size wr W) ∨ (L 13 = true ∧ ∃ W0, Below wr.heap.size wr W0 ∧ Below W0.heap.size (W0.setRow g (spm4 cur k (mm4 i))) W)
theorem Wdm4.pure {wr : World} {g : Nat} {cur : Array Value} {k i : Nat} {L : Nat → Bool} {W : World} (h : Wdm4 wr g cur k i () L W) (x : Nat) (h8 : x ≠ 13) : Wdm4 wr g cur k i () (upd L x) W := by
  rcases h with ⟨h1, h2⟩ | ⟨h1, h2⟩
  · exact .inl ⟨(upd_ne (Ne.symm h8)).trans h1, h2⟩
  · exact .inr ⟨upd_mono h1, h2⟩
theorem Wdm4.block {wr : World} {g : Nat} {cur : Array Value} {k i : Nat} {L : Nat → Bool} {W : World} (h : Wdm4 wr g cur k i () L W) (G : Nat) (hG : G < wr.heap.size) (hne : G ≠ g) : W.heap[G]? = wr.heap[G]? := by
  rcases h with ⟨_, h2⟩ | ⟨_, W0, h3, h4⟩
  · exact h2.block G hG
  · rw [h4.block G (Nat.lt_of_lt_of_le hG h3.size), setRow_other _ _ _ _ hne]
    exact h3.block G hG
theorem Wdm4.call {wr : World} {g : Nat} {cur : Array Value} {k i : Nat} {L : Nat → Bool} {W W' : World} (h : Wdm4 wr g cur k i () L W) (x : Nat) (hx : x ≠ 13) (hb : Below W.heap.size W W') : Wdm4 wr g cur k i () (upd L x) W' := by
  rcases h with ⟨h1, h2⟩ | ⟨h1, W0, h3, h4⟩
  · exact .inl ⟨(upd_ne (Ne.symm hx)).trans h1, h2.trans (hb.mono h2.size)⟩
  · refine .inr ⟨upd_mono h1, W0, h3, h4.trans (hb.mono ?_)⟩
    have := h4.size
    simp at this
    exact this
set_option maxHeartbeats 16000000 in
set_option maxRecDepth 8000 in
/-- outer of a book that messages came to: they are as they must be, and the lists have memory of their own. -/
theorem outer_any (B Z G n cap H cap2 : Nat) (vs : Nat → Value) (Ls : Nat → List M4) (ms : Nat → List Ms) (fr wa gr wh : Value) (w : World)
    (hZ : w.heap[Z]? = some (.cells (bk8 fr wa gr wh (.slice (some ⟨G, 0, none⟩) n cap) (.slice (some ⟨H, 0, none⟩) n cap2) (.slice none 0 0)) 53 (0, 0))) (hBZ : B ≤ Z)
    (h : RwN B G n vs w Ls) (hH : H < w.heap.size) (hlen : ∀ i, i < n → (Ls i).length = (ms i).length)
    (hone : ∀ i, i < n → ∃ p c, vs i = .slice p (ms i).length c ∧ Mls w p (ms i).length (ms i))
    (htwo : ∀ i, i < n → ∃ p c, w.cell? ⟨H, i, none⟩ = some (.slice p (ms i).length c) ∧ Mls w p (ms i).length (ms i))
    (hhs : ∀ i, i < n → ∀ j, ((ms i).getD j ms0).hs.length ≤ 33) (hn : n ≤ 2000000000) (hl : ∀ i, i < n → (Ls i).length ≤ 2000000000) :
    Calls Tryz.prog 53 #[.pointer (some ⟨Z, 0, none⟩)] w fun e w' => e = .returned (.bool true) ∧ KpM B Z w w' ∧ ∃ ml, w'.heap[Z]? = some (.cells (bk8 fr wa gr wh (.slice (some ⟨G, 0, none⟩) n cap) (.slice (some ⟨H, 0, none⟩) n cap2) ml) 53 (0, 0)) := by
  have HZ := hide hZ
  have HP := hide h
  have HL := hide (And.intro hl (And.intro hlen hhs))
  have HW := hide (And.intro hone htwo)
  clear h hl hone htwo hZ hlen hhs
  go_enter Tryz.func53, Tryz.ntmps53
  go_wp2
  go_loopw [3] (fun i wr => ∃ k : Nat, k ≤ n ∧ i = .int .i64 k ∧ Below w.heap.size w wr) (fun i _ => n - (Go.RowKit.intOf i).toNat)
  case atStart => exact ⟨0, by omega, rfl, Below.refl _ _⟩
  case round =>
  obtain ⟨r, hr, rfl, hb⟩ := hrel
  have hz := (hb.block Z (lt_of_row (unhide HZ))).trans (unhide HZ)
  have z0 : wr.cell? ⟨Z, 5, none⟩ = some (.slice (some ⟨G, 0, none⟩) n cap) := cell_of_row wr _ 5 _ 53 (0, 0) hz
  have z1 : wr.cell? ⟨Z, 6, none⟩ = some (.slice (some ⟨H, 0, none⟩) n cap2) := cell_of_row wr _ 6 _ 53 (0, 0) hz
  by_cases hlt : r < n
  · have hlt' : (r : Int) < (n : Int) := by omega
    obtain ⟨p, c, e1, e2⟩ := (unhide HW).1 r hlt
    obtain ⟨p2, c2, e3, e4⟩ := (unhide HW).2 r hlt
    have HB := hide hb
    have HB2 := hide (show ∀ W : World, Below wr.heap.size wr W → Below w.heap.size w W from fun _ k => hb.trans (k.mono hb.size))
    have HL1 := hide (show (ms r).length ≤ 2000000000 ∧ ∀ j, ((ms r).getD j ms0).hs.length ≤ 33 from ⟨by have := (unhide HL).1 r hlt; have := (unhide HL).2.1 r hlt; omega, (unhide HL).2.2 r hlt⟩)
    clear hb hz
    go_wp2_with fail
    refine ro4 Z G n cap H n cap2 r (.slice p (ms r).length c) (.slice p2 (ms r).length c2) (by kernel_rfl) (by kernel_rfl) (by kernel_rfl) _ _ (by show 36 ≤ Array.size _; simp) rfl rfl (fun _ _ W => Below wr.heap.size wr W) ⟨(), (Below.refl _ _).drew⟩ (fun _ _ _ _ _ q => q) ?_ ?_ ?_ ?_ ?_ ?_ ?_ ?_
    · exact fun _ L W h _ _ => s_ld (fun w => Tryz.isAgg51 w) ((World.cell?_of_block (h.block Z (blk_lt z0))).trans z0)
    · exact fun W => s_ix51 G n cap r hlt
    · intro _ L W h _ _
      rw [← e1, Nat.zero_add]
      exact s_ld (fun w => Tryz.isAgg54 w) ((World.cell?_of_block ((unhide HB2 _ h).block G (unhide HP).ltG)).trans ((unhide HP).cell r hlt))
    · exact fun _ L W h _ _ => s_ld (fun w => Tryz.isAgg51 w) ((World.cell?_of_block (h.block Z (blk_lt z1))).trans z1)
    · exact fun W => s_ix51 H n cap2 r hlt
    · intro _ L W h _ _
      rw [Nat.zero_add]
      exact s_ld (fun w => Tryz.isAgg54 w) ((World.cell?_of_block ((unhide HB2 _ h).block H hH)).trans e3)
    · intro _ L W h _ _ _
      refine (messages_eq p p2 (ms r).length c c2 (ms r) W (e2.below (unhide HB2 _ h)) (e4.below (unhide HB2 _ h)) (by have := unhide HL1; omega) (fun j => by have := (unhide HL1).2 j; omega)).mono ?_
      rintro e w2 ⟨rfl, hb⟩
      exact ⟨(), fun _ _ => rfl, rfl, h.trans (hb.mono h.size)⟩
    intro _ L W _ hW
    have HN := hide (unhide HB2 _ hW)
    clear hW z0 z1 e1 e2 e3 e4
    simp only [Act.put, List.setIfInBounds_toArray, List.set_cons_succ, List.set_cons_zero]
    go_wp2
    refine ⟨⟨r + 1, by omega, by go_num, unhide HN⟩, ?_⟩
    simp [Go.RowKit.intOf]; omega
  · have hd : decide (r < n) = false := by simp; omega
    have HP2 := hide ((unhide HP).below hb)
    have HZ2 := hide hz
    have hBw : B ≤ w.heap.size := Nat.le_of_lt (Nat.lt_of_le_of_lt (unhide HP).high (unhide HP).ltG)
    have HB := hide (KpM.of_below (B := B) (Z := Z) hb hBw)
    clear hb hz z1 HW HZ hH hBw
    go_wp2
    go_loopw [5] (fun i wr => ∃ k : Nat, k ≤ n ∧ i = .int .i64 k ∧ RwN B G n vs wr (parM Ls k 0) ∧ wr.heap[Z]? = some (.cells (bk8 fr wa gr wh (.slice (some ⟨G, 0, none⟩) n cap) (.slice (some ⟨H, 0, none⟩) n cap2) (.slice none 0 0)) 53 (0, 0)) ∧ KpM B Z w wr) (fun i _ => n - (Go.RowKit.intOf i).toNat)
    case atStart => exact ⟨0, by omega, rfl, by rw [parM_zero]; exact unhide HP2, unhide HZ2, unhide HB⟩
    case round =>
    clear HP2 HZ2 HB z0 HP
    obtain ⟨i, hi, rfl, hr, hz, hbr⟩ := hrel
    have z0 : wr.cell? ⟨Z, 5, none⟩ = some (.slice (some ⟨G, 0, none⟩) n cap) := cell_of_row wr _ 5 _ 53 (0, 0) hz
    by_cases hlt : i < n
    · have hlt' : (i : Int) < (n : Int) := by omega
      have hr0 := hide (And.intro hr (And.intro hz hbr))
      clear hr hz hbr
      go_wp2
      clear z0
      go_loopw [6] (fun x wq => ∃ k : Nat, k ≤ (Ls i).length ∧ x = .int .i64 k ∧ RwN B G n vs wq (parM Ls i k) ∧ wq.heap[Z]? = some (.cells (bk8 fr wa gr wh (.slice (some ⟨G, 0, none⟩) n cap) (.slice (some ⟨H, 0, none⟩) n cap2) (.slice none 0 0)) 53 (0, 0)) ∧ KpM B Z w wq) (fun x _ => (Ls i).length - (Go.RowKit.intOf x).toNat)
      case atStart => exact ⟨0, by omega, rfl, unhide hr0⟩
      case round =>
        clear hr0
        obtain ⟨k, hk, rfl, hq, hz, hbq⟩ := hrel
        have z0 : wr.cell? ⟨Z, 5, none⟩ = some (.slice (some ⟨G, 0, none⟩) n cap) := cell_of_row wr _ 5 _ 53 (0, 0) hz
        have hcell := hq.cell i hlt
        obtain ⟨p, c, hv⟩ : ∃ p c, vs i = .slice p (Ls i).length c := by
          obtain ⟨p, c, e⟩ := (hq.row i hlt).sl
          rw [parM_len] at e
          exact ⟨p, c, e⟩
        rw [hv] at hcell
        by_cases hkl : k < (Ls i).length
        · have hkl' : (k : Int) < ((Ls i).length : Int) := by omega
          obtain ⟨g, cap', cur, e1, e2, e3, e4, e5, e6, e7⟩ := hq.at i k hlt (by rw [parM_len]; exact hkl)
          rw [parM_len] at e1
          rw [hv] at e1
          obtain ⟨rfl, rfl⟩ : p = some ⟨g, 0, none⟩ ∧ c = cap' := by cases e1; exact ⟨rfl, rfl⟩
          have hlen : (parM Ls i k i).length = (Ls i).length := parM_len Ls i k i
          have hgZ : Z ≠ g := fun e => by rw [e] at hz; rw [hz] at e3; cases e3
          have HLn := hide ((unhide HL).1 i hlt)
          have hst := hide (parM_step Ls i k hkl)
          have hq' := hide hq
          have hz' := hide hz
          have hbq' := hide hbq
          have hlen' := hide hlen
          clear e1 hq hbq hz hlen
          generalize (Ls i).length = m at *
          go_wp2_with fail
          refine ro13 Z G n cap g m c i k (by kernel_rfl) (by kernel_rfl) (by kernel_rfl) _ _ (by show 72 ≤ Array.size _; simp) rfl rfl rfl (Wdm4 wr g cur k i) ⟨(), .inl ⟨rfl, (Below.refl _ _).drew⟩⟩ ?_ ?_ ?_ ?_ ?_ ?_ ?_ ?_ ?_ ?_
          · exact fun x hx _ L W hW => hW.pure x (by intro e; subst e; simp at hx)
          · exact fun _ L W hW _ _ => s_ld (fun w => Tryz.isAgg51 w) ((World.cell?_of_block (hW.block Z (blk_lt z0) hgZ)).trans z0)
          · exact fun W => s_ix51 G n cap i hlt
          · intro _ L W hW _ _
            rw [Nat.zero_add]
            exact s_ld (fun w => Tryz.isAgg54 w) ((World.cell?_of_block (hW.block G (unhide hq').ltG (Ne.symm e7))).trans hcell)
          · intro _ L W hW _ _
            refine (mark2_any i W (by omega)).mono ?_
            rintro e w2 ⟨rfl, hb⟩
            exact ⟨(), fun _ _ => rfl, rfl, Wdm4.call hW 9 (by decide) hb⟩
          · exact fun W => s_fld _ _
          · exact fun W => s_bld24 _
          · exact fun W => s_ix54 g m c k hkl
          · intro _ L W hW h13 _ _
            rcases hW with ⟨h1, h2⟩ | ⟨h1, _⟩
            · refine ⟨W.setRow g (spm4 cur k (mm4 i)), ?_, .inr ⟨upd_eq, W, h2, ?_⟩⟩
              · exact s_sta (fun w => Tryz.sizeOf24 w) ((h2.block g e6).trans e3) (.agg #[S [], S [], .slice none 0 0, S (mk i).2]) rfl e4 (by intro x hx; simp [Value.cells] at hx; rcases hx with rfl | rfl | rfl <;> rfl)
              · exact Below.refl _ _
            · rw [h13] at h1; cases h1
          intro _ L W hall hW
          have hW8 := hall 13 (by decide)
          obtain ⟨W0, hb0, hb1⟩ : ∃ W0, Below wr.heap.size wr W0 ∧ Below W0.heap.size (W0.setRow g (spm4 cur k (mm4 i))) W := by
            rcases hW with ⟨h1, _⟩ | ⟨_, h3⟩
            · rw [hW8] at h1; cases h1
            · exact h3
          have hg0 : W0.heap[g]? = some (.cells cur 24 (0, 0)) := (hb0.block g e6).trans e3
          have hsz0 := setRow_sz W0 g (spm4 cur k (mm4 i))
          rw [← hsz0] at hb1
          have hBwr : B ≤ wr.heap.size := by have := (unhide hq').ltG; have := (unhide hq').high; omega
          have hN := (((unhide hq').below hb0).set i k g hlt e2 (by rw [unhide hlen']; exact hkl) (mm4 i) hg0).below hb1
          rw [unhide hst] at hN
          have HN := hide hN
          have hK1 := (unhide hbq').trans (KpM.of_below hb0 hBwr)
          have HK := hide ((hK1.row hg0 e5 (spm4 cur k (mm4 i))).trans (KpM.of_below hb1 (by rw [hsz0]; exact Nat.le_trans hBwr hb0.size)))
          have HZN := hide (show W.heap[Z]? = some (.cells (bk8 fr wa gr wh (.slice (some ⟨G, 0, none⟩) n cap) (.slice (some ⟨H, 0, none⟩) n cap2) (.slice none 0 0)) 53 (0, 0)) from
            (hb1.block Z (by rw [hsz0]; exact Nat.lt_of_lt_of_le (blk_lt z0) hb0.size)).trans ((setRow_other _ _ _ _ hgZ).trans ((hb0.block Z (blk_lt z0)).trans (unhide hz'))))
          clear hN hK1 hb0 hb1 hg0 hsz0 hBwr hW z0 hq' hz' hbq' hst hlen' hcell
          have hmm := unhide HLn
          simp only [Act.put, List.setIfInBounds_toArray, List.set_cons_succ, List.set_cons_zero]
          go_wp2
          refine ⟨⟨k + 1, by omega, by go_num, unhide HN, unhide HZN, unhide HK⟩, ?_⟩
          simp [Go.RowKit.intOf]; omega
        · have hkl' : ¬ (k : Int) < ((Ls i).length : Int) := by omega
          have : k = (Ls i).length := by omega
          subst this
          rw [parM_next] at hq
          generalize (Ls i).length = m at *
          have hq' := hide (And.intro hq (And.intro hz hbq))
          clear hq hbq hz
          go_wp2
          refine ⟨⟨i + 1, by omega, by go_num, unhide hq'⟩, ?_⟩
          simp [Go.RowKit.intOf]; omega
    · have hd : decide (i < n) = false := by simp; omega
      have : i = n := by omega
      subst this
      have hst := hide (show AlM B wr.heap.size G i vs (fun j => (Ls j).length) w 0 0 [] (.slice none 0 0) 0 (.slice none 0 0) Z fr wa gr wh (.slice (some ⟨G, 0, none⟩) i cap) (.slice (some ⟨H, 0, none⟩) i cap2) wr from ⟨VsM.start (by
        refine ⟨hr.kind, hr.high, hr.cell, fun j hj => ?_, hr.apart, hr.above⟩
        have := hr.row j hj
        unfold parM at this
        rw [if_pos hj] at this
        exact this), Sq.nil _ _ _, hbr, Nat.le_refl _, hr.ltG, Nat.le_of_lt (Nat.lt_of_le_of_lt hr.high hr.ltG), hz, hBZ⟩)
      clear hr hz hbr hi hlt
      obtain ⟨m, hm⟩ : ∃ m : Nat → Nat, (fun j => (Ls j).length) = m := ⟨_, rfl⟩
      have HM := hide (show ∀ j, j < i → m j ≤ 2000000000 from fun j hj => by rw [← hm]; exact (unhide HL).1 j hj)
      rw [hm] at hst
      clear hm HL
      generalize wr.heap.size = b at *
      go_wp2
      clear hd z0
      go_loopw [7] (fun k wr => ∃ (lo i0 len : Nat) (V : List Vw) (x al : Value), lo ≤ i ∧ k = .int .i64 lo ∧ V.length = 8 * lo ∧ (∀ r v, V[r]? = some v → v.i = r / 8) ∧ AlM B b G i vs m w lo i0 V x len al Z fr wa gr wh (.slice (some ⟨G, 0, none⟩) i cap) (.slice (some ⟨H, 0, none⟩) i cap2) wr) (fun k _ => i - (Go.RowKit.intOf k).toNat)
      case atStart => exact ⟨0, 0, 0, [], .slice none 0 0, .slice none 0 0, by omega, rfl, rfl, (fun r v q => by simp at q), unhide hst⟩
      case round =>
        clear hst
        obtain ⟨lo, i0, len, V, x, al, hlo, rfl, hV, hU, hA⟩ := hrel
        have z0 : wr.cell? ⟨Z, 5, none⟩ = some (.slice (some ⟨G, 0, none⟩) i cap) := cell_of_row wr _ 5 _ 53 (0, 0) hA.blk
        by_cases hlt : lo < i
        · have hlt' : (lo : Int) < (i : Int) := by omega
          have hcell := hA.vst.cell lo hlt
          have hA0 := hide (hA.take hlt)
          have hU0 := hide hU
          clear hA hU
          go_wp2
          clear z0 hcell
          go_loopw [8, 9] (fun x c wr => ∃ (k : Nat) (V : List Vw) (al : Value), k ≤ 8 ∧ c = .int .i64 k ∧ V.length = 8 * lo + k ∧ (∀ r v, V[r]? = some v → v.i = r / 8) ∧ AlM B b G i vs m w (lo + 1) lo V x (m lo + k) al Z fr wa gr wh (.slice (some ⟨G, 0, none⟩) i cap) (.slice (some ⟨H, 0, none⟩) i cap2) wr) (fun _ c _ => 8 - (Go.RowKit.intOf c).toNat)
          case atStart => exact ⟨0, V, al, by omega, rfl, hV, unhide hU0, unhide hA0⟩
          case round =>
            clear hA0 hV hU0
            clear al V
            obtain ⟨k, V, al, hk, rfl, hV2, hU, hA⟩ := hrel
            have HU := hide hU
            clear hU
            by_cases hlt2 : k < 8
            · have hlt2' : (k : Int) < 8 := by omega
              have hml := unhide HM lo hlt
              obtain ⟨p8, c8, hx8, hv8⟩ := hA.vst.view hlt (by omega)
              have HA2 := hide hA
              have HV8 := hide hv8
              have z3 : wr.cell? ⟨Z, 7, none⟩ = some al := cell_of_row wr _ 7 _ 53 (0, 0) hA.blk
              subst hx8
              clear hA hv8
              go_wp2_with (first
                | (at_builtin; refine push51 (b := b) rfl (.tmp 96) (.tmp 98) rfl _ (V.map Vw.val) rfl wr p8 (m lo + k) c8 (unhide HA2).s1 (by rfl) (by simp; omega) (unhide HA2).room ?_
                   intro v5 w5 hs5 hg5
                   obtain ⟨p5, c5, hx5⟩ : ∃ p c, v5 = .slice p (8 * lo + k + 1) c := by obtain ⟨p, c, e⟩ := hs5.len; exact ⟨p, c, by rw [e]; simp [hV2]⟩
                   have e5 := (unhide HA2).blk1 hg5
                   have f5 : w5.frozen? ⟨Z, 7, none⟩ = false := by simp [World.frozen?, e5]
                   have y3 : w5.cell? ⟨Z, 7, none⟩ = some al := cell_of_row w5 _ 7 _ 53 (0, 0) e5
                   have HA3 := hide ((unhide HA2).push (unhide HV8) hs5 hg5)
                   rw [hx5] at HA3
                   rw [hx5]
                   clear hs5 hg5 hx5 e5)
                | (go_at_call 55; refine (mark2_any lo _ (by omega)).mono ?_; rintro e w7 ⟨rfl, hb7⟩; have HA1 := hide ((unhide HA3).keep hb7); clear hb7))
              rename_i hK
              refine hK _ _ ?_
              clear hK
              change wpList Tryz.prog _ _ _ (Act.put _ (some 105) (S (mk lo).2)) w7
              simp only [Act.put, List.setIfInBounds_toArray, List.set_cons_succ, List.set_cons_zero]
              go_wp2_with (at_builtin; refine wp_grM rfl (.tmp 102) (.tmp 107) rfl _ (List.replicate (m lo + k) (mm4 lo)) rfl w7 lo (unhide HA1).vst.xrow (by rfl) (by simp; omega) ?_
                           intro v8 w8 hr8 hg8 ho8
                           rw [List.length_replicate] at hg8
                           have HA4 := hide ((unhide HA1).grow hr8 hg8 ho8)
                           clear hr8 hg8 ho8)
              refine ⟨⟨k + 1, V ++ [⟨p8, m lo + k, c8, lo⟩], _, by omega, by go_num, by simp; omega, fun r v hv => ?_, unhide HA4⟩, ?_⟩
              · by_cases hrV : r < V.length
                · rw [List.getElem?_append_left hrV] at hv
                  exact unhide HU r v hv
                · rw [List.getElem?_append_right (by omega)] at hv
                  have hr0 : r - V.length = 0 := by
                    have := (List.getElem?_eq_some_iff.1 hv).1
                    simp at this
                    omega
                  rw [hr0] at hv
                  simp at hv
                  rw [← hv]
                  show lo = r / 8
                  omega
              simp [Go.RowKit.intOf]; omega
            · have : k = 8 := by omega
              subst this
              have HA := hide hA
              clear hA
              go_wp2
              refine ⟨⟨lo + 1, lo, m lo + 8, V, _, al, by omega, by go_num, by omega, unhide HU, unhide HA⟩, ?_⟩
              simp [Go.RowKit.intOf]; omega
        · have hd : decide (lo < i) = false := by simp; omega
          have : lo = i := by omega
          subst this
          obtain ⟨pa, ca, hal⟩ : ∃ p c, al = .slice p (8 * lo) c := by obtain ⟨p, c, e⟩ := hA.s1.len; exact ⟨p, c, by rw [e]; simp [hV]⟩
          subst hal
          have HA := hide hA
          have HU := hide hU
          clear hA hU
          go_wp2
          clear hd z0
          go_loopw [10] (fun k wq => ∃ r : Nat, r ≤ 8 * lo ∧ k = .int .i64 r ∧ Below wr.heap.size wr wq) (fun k _ => 8 * lo - (Go.RowKit.intOf k).toNat)
          case atStart => exact ⟨0, by omega, rfl, Below.refl _ _⟩
          case round =>
            obtain ⟨r, hr, rfl, hb⟩ := hrel
            have hA := (unhide HA).keep hb
            have z3 : wr.cell? ⟨Z, 7, none⟩ = some (.slice pa (8 * lo) ca) := cell_of_row wr _ 7 _ 53 (0, 0) hA.blk
            by_cases hlt : r < 8 * lo
            · have hlt' : (r : Int) < ((8 * lo : Nat) : Int) := by omega
              have hlt'' : (r : Int) < 8 * (lo : Int) := by omega
              have hrV : r < V.length := by omega
              obtain ⟨A, cA, hal, hc1⟩ := hA.s1.at r (by simpa using hrV)
              obtain ⟨rfl, rfl⟩ : pa = some ⟨A, 0, none⟩ ∧ ca = cA := by injection hal with e1 _ e2; exact ⟨e1, e2⟩
              obtain ⟨v, hv⟩ : ∃ v, V[r]? = some v := ⟨V[r], List.getElem?_eq_getElem hrV⟩
              have hvm : v ∈ V := List.mem_of_getElem? hv
              have q1 : (V.map Vw.val).getD r undef = v.val := by simp [hv]
              rw [q1] at hc1
              have hvi := unhide HU r v hv
              have hgd := hA.vst.good v hvm
              have hvs := hA.vst.size v hvm
              have HB := hide hb
              have HGD := hide hgd
              clear hb hA hal q1 hv hvm hgd
              obtain ⟨vp, vn, vc, vi⟩ := v
              simp only [Vw.val] at hc1 hvs hvi
              obtain ⟨W5, hW5⟩ : ∃ W5, W5 = wr := ⟨_, rfl⟩
              rw [← hW5] at HB HGD hc1 z3 ⊢
              clear hW5
              have HZ3 := hide z3
              go_wp2
              go_loopw [11] (fun x wq => ∃ k : Nat, k ≤ vn ∧ x = .int .i64 k ∧ Below W5.heap.size W5 wq) (fun x _ => vn - (Go.RowKit.intOf x).toNat)
              case atStart => exact ⟨0, by omega, rfl, Below.refl _ _⟩
              case round =>
                clear z3
                obtain ⟨k, hk, rfl, hb⟩ := hrel
                have z3 : wr.cell? ⟨Z, 7, none⟩ = some (.slice (some ⟨A, 0, none⟩) (8 * lo) ca) := (hb.cell (by exact blk_lt (unhide HZ3))).trans (unhide HZ3)
                have hc2 : wr.cell? ⟨A, r, none⟩ = some (.slice vp vn vc) := (hb.cell (by exact blk_lt hc1)).trans hc1
                by_cases hkl : k < vn
                · have hkl' : (k : Int) < (vn : Int) := by omega
                  obtain ⟨g, hg1, hg2⟩ := unhide HGD k hkl
                  have hg1' : vp = some ⟨g, 0, none⟩ := hg1
                  have hg3 : wr.cell? ⟨g, k * 4 + 3, none⟩ = some (S (mk vi).2) := (hb.cell (by exact blk_lt hg2)).trans hg2
                  subst hg1'
                  have HBW := hide hb
                  clear hb hg1 hg2
                  go_wp2_with fail
                  refine ro29 Z A (8 * lo) ca g vn vc r k vi (by kernel_rfl) (by kernel_rfl) (by kernel_rfl) _ _ (by show 146 ≤ Array.size _; simp) rfl rfl rfl (fun _ _ W => Below wr.heap.size wr W) ⟨(), (Below.refl _ _).drew⟩ (fun _ _ _ _ _ q => q) ?_ ?_ ?_ ?_ ?_ ?_ ?_ ?_ ?_ ?_
                  · exact fun _ L W h _ _ => s_ld (fun w => Tryz.isAgg51 w) ((World.cell?_of_block (h.block Z (blk_lt z3))).trans z3)
                  · exact fun W => s_ix51 A (8 * lo) ca r hlt
                  · intro _ L W h _ _
                    rw [Nat.zero_add]
                    exact s_ld (fun w => Tryz.isAgg54 w) ((World.cell?_of_block (h.block A (blk_lt hc2))).trans hc2)
                  · exact fun W => s_ix54 g vn vc k hkl
                  · exact fun _ L W h _ _ => s_ld (fun w => Tryz.isAgg9 w) ((World.cell?_of_block (h.block g (blk_lt hg3))).trans hg3)
                  · intro W
                    rw [hvi]
                    exact s_quo _ _ r (by omega)
                  · intro _ L W h _ _
                    refine (mark2_any vi W (by omega)).mono ?_
                    rintro e w2 ⟨rfl, hb⟩
                    exact ⟨(), fun _ _ => rfl, rfl, h.trans (hb.mono h.size)⟩
                  · exact fun W => s_fld _ _
                  · exact fun W => s_neqS _ _ _
                  intro _ L W _ hW
                  have HN := hide ((unhide HBW).trans (hW.mono (unhide HBW).size))
                  clear hW z3 hc2 hg3 hvi
                  simp only [Act.put, List.setIfInBounds_toArray, List.set_cons_succ, List.set_cons_zero]
                  go_wp2
                  refine ⟨⟨k + 1, by omega, by go_num, unhide HN⟩, ?_⟩
                  simp [Go.RowKit.intOf]; omega
                · have hd : decide (k < vn) = false := by simp; omega
                  have HN := hide ((unhide HB).trans (hb.mono (unhide HB).size))
                  clear hb hvi
                  go_wp2
                  refine ⟨⟨r + 1, by omega, by go_num, unhide HN⟩, ?_⟩
                  simp [Go.RowKit.intOf]; omega
            · have hd : decide ((r : Int) < ((8 * lo : Nat) : Int)) = false := by simp; omega
              have hd2 : ¬ (r : Int) < 8 * (lo : Int) := by omega
              have HE := hide (And.intro hA.kp hA.blk)
              clear hb hA HA
              go_wp2
              go_ret
              exact ⟨rfl, (unhide HE).1, _, (unhide HE).2⟩
end Go.Proofs.YthlacailhfhjnaaGreatDoor
