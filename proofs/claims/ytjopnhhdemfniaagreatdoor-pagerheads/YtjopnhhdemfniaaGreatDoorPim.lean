import Derived.Test.YtjopnhhdemfniaaGreatDoorPin
import Derived.Test.YtjopnhhdemfniaaGreatDoorZdetl
import Derived.Defers
namespace Go.Proofs.YtjopnhhdemfniaaGreatDoor
open Go.RowKit
set_option maxHeartbeats 8000000
set_option maxRecDepth 8000
variable {P D : Nat} {d : Ds} {p : Pr} {vw vl vu : Value} {w w' : World}
/-- What a turn comes to. -/
def trv (d : Ds) (l : List Pg) (x : Hd) : Int := if (wps x.gen d l).1 ≠ 0 then (wps x.gen d l).1 else wrhv (wps x.gen d l).2 x
def trd (d : Ds) (l : List Pg) (x : Hd) : Ds := if (wps x.gen d l).1 ≠ 0 then (wps x.gen d l).2 else wrhd (wps x.gen d l).2 x
theorem wps_ok (g : Int) : ∀ (l : List Pg) (d : Ds), Ok d → Ok (wps g d l).2 ∧ (wps g d l).2.last.length = d.last.length
  | [], d, h => ⟨h.sync, sync_len d⟩
  | x :: l, d, h => by
    unfold wps
    split
    · exact ⟨h.write _ _, write_len _ _ _⟩
    · obtain ⟨a, b⟩ := wps_ok g l _ (h.write x.number (x.born g).blk)
      exact ⟨a, b.trans (write_len _ _ _)⟩
theorem wrhd_ok (x : Hd) (h : Ok d) : Ok (wrhd d x) ∧ (wrhd d x).last.length = d.last.length := by
  unfold wrhd
  split
  · exact ⟨h.write _ _, write_len _ _ _⟩
  · exact ⟨(h.write _ _).sync, (sync_len _).trans (write_len _ _ _)⟩
theorem ne_type {W : World} {a b : Nat} {ca cb : Array Value} {ta tb : TypeId} {fa fb : Nat × Nat} (ha : W.heap[a]? = some (.cells ca ta fa)) (hb : W.heap[b]? = some (.cells cb tb fb)) (h : ta ≠ tb) : a ≠ b := by
  intro e
  rw [e, hb] at ha
  cases ha
  exact h rfl
theorem DAt.kind (h : DAt D d vw vl w) (k : Nat) (hk : Of D vw vl k) : ∃ cs t, w.heap[k]? = some (.cells cs t (0, 0)) ∧ (t = 153 ∨ t = 164 ∨ t = 9) := by
  rcases hk with rfl | hk | hk
  · exact ⟨_, _, h.blk, .inl rfl⟩
  · obtain ⟨cs, q⟩ := owns_lt h.ws k hk
    exact ⟨_, _, q, .inr (.inl rfl)⟩
  · obtain ⟨cs, q⟩ := owns_lt h.ls k hk
    exact ⟨_, _, q, .inr (.inr rfl)⟩
theorem DAt.noB (h : DAt D d vw vl w) {a : Nat} {ca : Array Value} {ta : TypeId} {fa : Nat × Nat} (ha : w.heap[a]? = some (.cells ca ta fa)) (h1 : ta ≠ 153) (h2 : ta ≠ 164) (h3 : ta ≠ 9) : ¬ Of D vw vl a := by
  intro q
  obtain ⟨cs, t, e, ht⟩ := h.kind a q
  rw [ha] at e
  cases e
  rcases ht with r | r | r <;> contradiction
/-- What stands in the boxes of a turn. -/
structure Tb (P : Nat) (x x0 : Hd) (v0 : Value) (b4 b6 b8 b9 b10 : Nat) (er : Int) (W : World) : Prop where
  x4 : W.heap[b4]? = some (.cells #[ptr P] 57 (0, 0))
  x6 : W.heap[b6]? = some (.cells (hdc x) 123 (0, 0))
  x8 : W.heap[b8]? = some (.cells #[I er] 35 (0, 0))
  x9 : W.heap[b9]? = some (.cells (hdc x0) 123 (0, 0))
  x10 : W.heap[b10]? = some (.cells #[v0] 168 (0, 0))
variable {x x0 : Hd} {v0 : Value} {b4 b6 b8 b9 b10 : Nat} {er er' : Int} {W W' : World}
theorem Tb.only {F : Nat → Prop} (h : Tb P x x0 v0 b4 b6 b8 b9 b10 er W) (o : Only F W W') (h4 : ¬ F b4) (h6 : ¬ F b6) (h8 : ¬ F b8) (h9 : ¬ F b9) (h10 : ¬ F b10) : Tb P x x0 v0 b4 b6 b8 b9 b10 er W' :=
  ⟨(o.block _ (lt_of_row h.x4) h4).trans h.x4, (o.block _ (lt_of_row h.x6) h6).trans h.x6, (o.block _ (lt_of_row h.x8) h8).trans h.x8, (o.block _ (lt_of_row h.x9) h9).trans h.x9, (o.block _ (lt_of_row h.x10) h10).trans h.x10⟩
theorem Tb.disk (h : Tb P x x0 v0 b4 b6 b8 b9 b10 er W) (hd : DAt D d vw vl W) (o : Only (Of D vw vl) W W') : Tb P x x0 v0 b4 b6 b8 b9 b10 er W' :=
  h.only o (hd.noB h.x4 (by decide) (by decide) (by decide)) (hd.noB h.x6 (by decide) (by decide) (by decide)) (hd.noB h.x8 (by decide) (by decide) (by decide)) (hd.noB h.x9 (by decide) (by decide) (by decide)) (hd.noB h.x10 (by decide) (by decide) (by decide))
theorem Tb.pager {cs : Array Value} (h : Tb P x x0 v0 b4 b6 b8 b9 b10 er W) (hp : W.heap[P]? = some (.cells cs 172 (0, 0))) (o : Only (fun k => k = P) W W') : Tb P x x0 v0 b4 b6 b8 b9 b10 er W' :=
  h.only o (ne_type h.x4 hp (by decide)) (ne_type h.x6 hp (by decide)) (ne_type h.x8 hp (by decide)) (ne_type h.x9 hp (by decide)) (ne_type h.x10 hp (by decide))
theorem Tb.row8 (h : Tb P x x0 v0 b4 b6 b8 b9 b10 er W) : Tb P x x0 v0 b4 b6 b8 b9 b10 er' (W.setRow b8 #[I er']) :=
  ⟨(setRow_other _ _ _ _ (ne_type h.x4 h.x8 (by decide))).trans h.x4, (setRow_other _ _ _ _ (ne_type h.x6 h.x8 (by decide))).trans h.x6, setRow_row h.x8, (setRow_other _ _ _ _ (ne_type h.x9 h.x8 (by decide))).trans h.x9, (setRow_other _ _ _ _ (ne_type h.x10 h.x8 (by decide))).trans h.x10⟩
theorem Mk1.put {W0 W : World} {T : TypeId} {ia is : Nat} {z v : Array Value} {c : Nat} {L : Nat → Bool} (h : Mk1 W0 T ia is z v c L W) {g : Nat} (hg : W0.heap.size ≤ g) (hne : L ia = true → c ≠ g) (vs : Array Value) {i : Nat} (h1 : i ≠ ia) (h2 : i ≠ is) : Mk1 W0 T ia is z v c (upd L i) (W.setRow g vs) := by
  refine ⟨belowR h.bel hg vs, ?_, ?_⟩
  · rw [upd_ne (Ne.symm h1), upd_ne (Ne.symm h2)]
    intro q
    obtain ⟨q1, q2⟩ := h.box q
    exact ⟨q1, (setRow_other _ _ _ _ (hne q)).trans q2⟩
  · rw [upd_ne (Ne.symm h1), upd_ne (Ne.symm h2)]; exact h.nst
/-- The first steps of a turn: the last head and usage are kept, the new ones stand. -/
theorem turn_r1 {ops : Array Oper} {id : Nat} {Q : Exit → Act → World → Prop} (X : Nat) (W3 : World) (p : Pr) (q1 : Option Addr) (n1 cap1 : Nat) (htab : ops.toList.map (fun o => (o.op, o.dst, o.guard)) = rtn1T) (hdep : deplB rtn1D ops = true) (hac : acB ops = true)
    (a0 : Act) (hsz : 20 ≤ a0.tmps.size) (o4 : a0.tmps[4]? = some (ptr X)) (hx : W3.heap[X]? = some (.cells #[ptr P] 57 (0, 0))) (hP : W3.heap[P]? = some (.cells (pcs D p (.slice q1 n1 cap1)) 172 (0, 0)))
    (hend : ∀ ca cb W, Below W3.heap.size W3 W → W3.heap.size ≤ ca → W3.heap.size ≤ cb → W.heap[ca]? = some (.cells (hdc p.h) 123 (0, 0)) → W.heap[cb]? = some (.cells #[.slice q1 n1 cap1] 168 (0, 0)) →
      Q .normal ((((((((((a0.put (some 12) (ptr P)).put (some 13) (ptr P)).put (some 14) (.pointer (some ⟨P, 0 + 1, none⟩))).put (some 15) (hda p.h)).put (some 16) (ptr P)).put (some 17) (ptr P)).put (some 18) (.pointer (some ⟨P, 0 + 5, none⟩))).put (some 19) (.slice q1 n1 cap1)).put (some 9) (ptr ca)).put (some 10) (ptr cb)) W) : (Code.region id ops true).wp Tryz.prog Q a0 W3 := by
  obtain ⟨⟨g, r, b, x⟩, us, pins, db⟩ := p
  unfold hda hdc at hend
  simp only at hend
  have hXl := lt_of_row hx
  have hPl := lt_of_row hP
  refine rtn1 X P g r b x (.slice q1 n1 cap1) htab hdep hac a0 W3 hsz o4 (fun c L W => Mk1 W3 123 8 10 #[I 0, I 0, I 0, .string ⟨#[]⟩] #[I g, I r, I b, S x] c.a L W ∧ Mk1 W3 168 9 11 #[.slice none 0 0] #[.slice q1 n1 cap1] c.b L W) ⟨⟨0, 0⟩, Mk1.start _ _ _ _ _ _ _, Mk1.start _ _ _ _ _ _ _⟩ ?_ ?_ ?_ ?_ ?_ ?_ ?_ ?_ ?_ ?_
  · intro i hi c L W hW
    simp only [List.mem_cons, List.not_mem_nil, or_false, not_or] at hi
    exact ⟨hW.1.pure hi.1 hi.2.2.1, hW.2.pure hi.2.1 hi.2.2.2⟩
  · intro c L W hW _
    exact s_ld Tryz.isAgg57 ((cell_of_row _ _ 0 _ 57 (0, 0) ((hW.1.bel.block _ hXl).trans hx)))
  · intro c L W hW _ _
    exact s_ldr Tryz.isAgg123 Tryz.sizeOf123 ((hW.1.bel.block _ hPl).trans hP) [I g, I r, I b, S x] rfl rfl
  · intro c L W hW _
    exact s_ld Tryz.isAgg57 ((cell_of_row _ _ 0 _ 57 (0, 0) ((hW.1.bel.block _ hXl).trans hx)))
  · intro c L W hW _ _
    exact s_ld Tryz.isAgg168 ((cell_of_row _ _ (0 + 5) _ 172 (0, 0) ((hW.1.bel.block _ hPl).trans hP)))
  · intro c L W hW hL
    refine ⟨⟨W.heap.size, c.b⟩, _, fun j hj => ?_, s_al Tryz.zeroValue123, hW.1.alloc hL (by decide), hW.2.call ((Below.refl _ _).alloc (Nat.le_refl _) _) (by decide) (by decide)⟩
    unfold vrtn1
    split <;> first | rfl | (rw [hL] at hj; cases hj)
  · intro c L W hW hL
    refine ⟨⟨c.a, W.heap.size⟩, _, fun j hj => ?_, s_al Tryz.zeroValue168, hW.1.call ((Below.refl _ _).alloc (Nat.le_refl _) _) (by decide) (by decide), hW.2.alloc hL (by decide)⟩
    unfold vrtn1
    split <;> first | rfl | (rw [hL] at hj; cases hj)
  · intro c L W hW hL h3 h8
    refine ⟨_, hW.1.runs h8 hL Tryz.sizeOf123 _ rfl rfl rfl (by simp [Value.oneCell']), hW.1.fill h8 (by decide), hW.2.put (hW.1.box h8).1 (fun q => ne_type (hW.2.box q).2 (hW.1.box h8).2 (by decide)) _ (by decide) (by decide)⟩
  · intro c L W hW hL h7 h9
    refine ⟨_, hW.2.runs h9 hL Tryz.sizeOf168 _ rfl rfl rfl (by simp [Value.oneCell']), hW.1.put (hW.2.box h9).1 (fun q => ne_type (hW.1.box q).2 (hW.2.box h9).2 (by decide)) _ (by decide) (by decide), hW.2.fill h9 (by decide)⟩
  · intro c L W hall hW
    obtain ⟨u1, u2⟩ := hW.1.done (hall 8 (by omega)) (hall 10 (by omega))
    obtain ⟨u3, u4⟩ := hW.2.done (hall 9 (by omega)) (hall 11 (by omega))
    exact hend c.a c.b W hW.1.bel u1 u3 u2 u4
theorem turn_r2 {ops : Array Oper} {id : Nat} {Q : Exit → Act → World → Prop} (X Y : Nat) (W5 : World) (p : Pr) (x : Hd) (q1 q2 : Option Addr) (n1 cap1 n2 cap2 : Nat) (htab : ops.toList.map (fun o => (o.op, o.dst, o.guard)) = rtn2T) (hdep : deplB rtn2D ops = true) (hac : acB ops = true)
    (a0 : Act) (hsz : 28 ≤ a0.tmps.size) (o3 : a0.tmps[3]? = some (.slice q2 n2 cap2)) (o4 : a0.tmps[4]? = some (ptr X)) (o6 : a0.tmps[6]? = some (ptr Y)) (hx : W5.heap[X]? = some (.cells #[ptr P] 57 (0, 0))) (hy : W5.heap[Y]? = some (.cells (hdc x) 123 (0, 0))) (hP : W5.heap[P]? = some (.cells (pcs D p (.slice q1 n1 cap1)) 172 (0, 0)))
    (hend : ∀ W, Only (fun k => k = P) W5 W → W.heap[P]? = some (.cells (pcs D { p with h := x } (.slice q2 n2 cap2)) 172 (0, 0)) →
      Q .normal ((((((((a0.put (some 20) (ptr P)).put (some 21) (ptr P)).put (some 22) (hda x)).put (some 23) (.slice q2 n2 cap2)).put (some 24) (ptr P)).put (some 25) (.pointer (some ⟨P, 0 + 1, none⟩))).put (some 26) (ptr P)).put (some 27) (.pointer (some ⟨P, 0 + 5, none⟩))) W) : (Code.region id ops true).wp Tryz.prog Q a0 W5 := by
  obtain ⟨⟨g0, r0, b0, x0⟩, us, pins, db⟩ := p
  obtain ⟨g, r, b, x⟩ := x
  unfold hda at hend
  unfold hdc at hy
  simp only at hend hy
  have hXl := lt_of_row hx
  have hYl := lt_of_row hy
  have hXP : X ≠ P := ne_type hx hP (by decide)
  have hYP : Y ≠ P := ne_type hy hP (by decide)
  refine rtn2 X Y P g r b x (.slice q2 n2 cap2) htab hdep hac a0 W5 hsz o3 o4 o6 (fun _ L W => Only (fun k => k = P) W5 W ∧ W.heap[P]? = some (.cells (pcs D ⟨if L 6 = true then ⟨g, r, b, x⟩ else ⟨g0, r0, b0, x0⟩, us, pins, db⟩ (if L 9 = true then .slice q2 n2 cap2 else .slice q1 n1 cap1)) 172 (0, 0))) ⟨(), Only.of_below (Below.refl _ _).drew, hP⟩ ?_ ?_ ?_ ?_ ?_ ?_ ?_
  · intro i hi _ L W hW
    simp only [List.mem_cons, List.not_mem_nil, or_false, not_or] at hi
    rw [upd_ne (Ne.symm hi.1), upd_ne (Ne.symm hi.2)]
    exact hW
  · intro _ L W hW _
    exact s_ld Tryz.isAgg57 ((cell_of_row _ _ 0 _ 57 (0, 0) ((hW.1.block _ hXl hXP).trans hx)))
  · intro _ L W hW _
    exact s_ld Tryz.isAgg57 ((cell_of_row _ _ 0 _ 57 (0, 0) ((hW.1.block _ hXl hXP).trans hx)))
  · intro _ L W hW _
    exact s_ldr Tryz.isAgg123 Tryz.sizeOf123 ((hW.1.block _ hYl hYP).trans hy) [I g, I r, I b, S x] rfl rfl
  · intro _ L W hW hL _ _
    refine ⟨_, s_sta Tryz.sizeOf123 (o := 0 + 1) hW.2 _ rfl (by simp [pcs]) (by show ∀ y ∈ [I g, I r, I b, S x], y.oneCell' = true; simp [Value.oneCell']), hW.1.trans (setRow_Only _ _ _) (fun _ _ q => q), ?_⟩
    rw [setRow_row hW.2, upd_self, upd_ne (by decide), if_pos rfl]
    rfl
  · intro _ L W hW hL _ _
    refine ⟨_, s_sta Tryz.sizeOf168 (o := 0 + 5) hW.2 (.slice q2 n2 cap2) rfl (by simp [pcs]) (by show ∀ y ∈ [Value.slice q2 n2 cap2], y.oneCell' = true; simp [Value.oneCell']), hW.1.trans (setRow_Only _ _ _) (fun _ _ q => q), ?_⟩
    rw [setRow_row hW.2, upd_self, upd_ne (by decide), if_pos rfl]
    rfl
  · intro _ L W hall hW
    have := hW.2
    rw [hall 6 (by omega), hall 9 (by omega), if_pos rfl, if_pos rfl] at this
    exact hend W hW.1 this
end Go.Proofs.YtjopnhhdemfniaaGreatDoor
