import Derived.Test.YtjopnhhdemfniaaGreatDoorPin
import Derived.Test.YtjopnhhdemfniaaGreatDoorZdetl
import Derived.Defers
import Derived.Test.YtjopnhhdemfniaaGreatDoorZpic
namespace Go.Proofs.YtjopnhhdemfniaaGreatDoor
open Go.RowKit
set_option maxHeartbeats 8000000
set_option maxRecDepth 8000
variable {P D : Nat} {d : Ds} {p : Pr} {vw vl vu : Value} {w w' : World}
/-- What a turn comes to. -/
def trv (d : Ds) (l : List Pg) (x : Hd) : Int := if (wps x.gen d l).1 ≠ 0 then (wps x.gen d l).1 else wrhv (wps x.gen d l).2 x
def trd (d : Ds) (l : List Pg) (x : Hd) : Ds := if (wps x.gen d l).1 ≠ 0 then (wps x.gen d l).2 else wrhd (wps x.gen d l).2 x
theorem wps_ok (g : Int) : ∀ (l : List Pg) (d : Ds), Ok d → Ok (wps g d l).2 ∧ (wps g d l).2.last.length = d.last.length
  | [], d, h => ⟨h.sync, sync_len d⟩
  | x :: l, d, h => by
    unfold wps
    split
    · exact ⟨h.write _ _, write_len _ _ _⟩
    · obtain ⟨a, b⟩ := wps_ok g l _ (h.write x.number (x.born g).blk)
      exact ⟨a, b.trans (write_len _ _ _)⟩
theorem wrhd_ok (x : Hd) (h : Ok d) : Ok (wrhd d x) ∧ (wrhd d x).last.length = d.last.length := by
  unfold wrhd
  split
  · exact ⟨h.write _ _, write_len _ _ _⟩
  · exact ⟨(h.write _ _).sync, (sync_len _).trans (write_len _ _ _)⟩
theorem ne_type {W : World} {a b : Nat} {ca cb : Array Value} {ta tb : TypeId} {fa fb : Nat × Nat} (ha : W.heap[a]? = some (.cells ca ta fa)) (hb : W.heap[b]? = some (.cells cb tb fb)) (h : ta ≠ tb) : a ≠ b := by
  intro e
  rw [e, hb] at ha
  cases ha
  exact h rfl
theorem DAt.kind (h : DAt D d vw vl w) (k : Nat) (hk : Of D vw vl k) : ∃ cs t, w.heap[k]? = some (.cells cs t (0, 0)) ∧ (t = 153 ∨ t = 164 ∨ t = 9) := by
  rcases hk with rfl | hk | hk
  · exact ⟨_, _, h.blk, .inl rfl⟩
  · obtain ⟨cs, q⟩ := owns_lt h.ws k hk
    exact ⟨_, _, q, .inr (.inl rfl)⟩
  · obtain ⟨cs, q⟩ := owns_lt h.ls k hk
    exact ⟨_, _, q, .inr (.inr rfl)⟩
theorem DAt.noB (h : DAt D d vw vl w) {a : Nat} {ca : Array Value} {ta : TypeId} {fa : Nat × Nat} (ha : w.heap[a]? = some (.cells ca ta fa)) (h1 : ta ≠ 153) (h2 : ta ≠ 164) (h3 : ta ≠ 9) : ¬ Of D vw vl a := by
  intro q
  obtain ⟨cs, t, e, ht⟩ := h.kind a q
  rw [ha] at e
  cases e
  rcases ht with r | r | r <;> contradiction
/-- What stands in the boxes of a turn. -/
structure Tb (P : Nat) (x x0 : Hd) (v0 : Value) (b4 b6 b8 b9 b10 : Nat) (er : Int) (W : World) : Prop where
  x4 : W.heap[b4]? = some (.cells #[ptr P] 57 (0, 0))
  x6 : W.heap[b6]? = some (.cells (hdc x) 123 (0, 0))
  x8 : W.heap[b8]? = some (.cells #[I er] 35 (0, 0))
  x9 : W.heap[b9]? = some (.cells (hdc x0) 123 (0, 0))
  x10 : W.heap[b10]? = some (.cells #[v0] 168 (0, 0))
variable {x x0 : Hd} {v0 : Value} {b4 b6 b8 b9 b10 : Nat} {er er' : Int} {W W' : World}
theorem Tb.only {F : Nat → Prop} (h : Tb P x x0 v0 b4 b6 b8 b9 b10 er W) (o : Only F W W') (h4 : ¬ F b4) (h6 : ¬ F b6) (h8 : ¬ F b8) (h9 : ¬ F b9) (h10 : ¬ F b10) : Tb P x x0 v0 b4 b6 b8 b9 b10 er W' :=
  ⟨(o.block _ (lt_of_row h.x4) h4).trans h.x4, (o.block _ (lt_of_row h.x6) h6).trans h.x6, (o.block _ (lt_of_row h.x8) h8).trans h.x8, (o.block _ (lt_of_row h.x9) h9).trans h.x9, (o.block _ (lt_of_row h.x10) h10).trans h.x10⟩
theorem Tb.disk (h : Tb P x x0 v0 b4 b6 b8 b9 b10 er W) (hd : DAt D d vw vl W) (o : Only (Of D vw vl) W W') : Tb P x x0 v0 b4 b6 b8 b9 b10 er W' :=
  h.only o (hd.noB h.x4 (by decide) (by decide) (by decide)) (hd.noB h.x6 (by decide) (by decide) (by decide)) (hd.noB h.x8 (by decide) (by decide) (by decide)) (hd.noB h.x9 (by decide) (by decide) (by decide)) (hd.noB h.x10 (by decide) (by decide) (by decide))
theorem Tb.pager {cs : Array Value} (h : Tb P x x0 v0 b4 b6 b8 b9 b10 er W) (hp : W.heap[P]? = some (.cells cs 172 (0, 0))) (o : Only (fun k => k = P) W W') : Tb P x x0 v0 b4 b6 b8 b9 b10 er W' :=
  h.only o (ne_type h.x4 hp (by decide)) (ne_type h.x6 hp (by decide)) (ne_type h.x8 hp (by decide)) (ne_type h.x9 hp (by decide)) (ne_type h.x10 hp (by decide))
theorem Tb.row8 (h : Tb P x x0 v0 b4 b6 b8 b9 b10 er W) : Tb P x x0 v0 b4 b6 b8 b9 b10 er' (W.setRow b8 #[I er']) :=
  ⟨(setRow_other _ _ _ _ (ne_type h.x4 h.x8 (by decide))).trans h.x4, (setRow_other _ _ _ _ (ne_type h.x6 h.x8 (by decide))).trans h.x6, setRow_row h.x8, (setRow_other _ _ _ _ (ne_type h.x9 h.x8 (by decide))).trans h.x9, (setRow_other _ _ _ _ (ne_type h.x10 h.x8 (by decide))).trans h.x10⟩
theorem Mk1.put {W0 W : World} {T : TypeId} {ia is : Nat} {z v : Array Value} {c : Nat} {L : Nat → Bool} (h : Mk1 W0 T ia is z v c L W) {g : Nat} (hg : W0.heap.size ≤ g) (hne : L ia = true → c ≠ g) (vs : Array Value) {i : Nat} (h1 : i ≠ ia) (h2 : i ≠ is) : Mk1 W0 T ia is z v c (upd L i) (W.setRow g vs) := by
  refine ⟨belowR h.bel hg vs, ?_, ?_⟩
  · rw [upd_ne (Ne.symm h1), upd_ne (Ne.symm h2)]
    intro q
    obtain ⟨q1, q2⟩ := h.box q
    exact ⟨q1, (setRow_other _ _ _ _ (hne q)).trans q2⟩
  · rw [upd_ne (Ne.symm h1), upd_ne (Ne.symm h2)]; exact h.nst
/-- The first steps of a turn: the last head and usage are kept, the new ones stand. -/
theorem turn_r1 {ops : Array Oper} {id : Nat} {Q : Exit → Act → World → Prop} (X : Nat) (W3 : World) (p : Pr) (q1 : Option Addr) (n1 cap1 : Nat) (htab : ops.toList.map (fun o => (o.op, o.dst, o.guard)) = rtn1T) (hdep : deplB rtn1D ops = true) (hac : acB ops = true)
    (a0 : Act) (hsz : 20 ≤ a0.tmps.size) (o4 : a0.tmps[4]? = some (ptr X)) (hx : W3.heap[X]? = some (.cells #[ptr P] 57 (0, 0))) (hP : W3.heap[P]? = some (.cells (pcs D p (.slice q1 n1 cap1)) 172 (0, 0)))
    (hend : ∀ ca cb W, Below W3.heap.size W3 W → W3.heap.size ≤ ca → W3.heap.size ≤ cb → W.heap[ca]? = some (.cells (hdc p.h) 123 (0, 0)) → W.heap[cb]? = some (.cells #[.slice q1 n1 cap1] 168 (0, 0)) →
      Q .normal ((((((((((a0.put (some 12) (ptr P)).put (some 13) (ptr P)).put (some 14) (.pointer (some ⟨P, 0 + 1, none⟩))).put (some 15) (hda p.h)).put (some 16) (ptr P)).put (some 17) (ptr P)).put (some 18) (.pointer (some ⟨P, 0 + 5, none⟩))).put (some 19) (.slice q1 n1 cap1)).put (some 9) (ptr ca)).put (some 10) (ptr cb)) W) : (Code.region id ops true).wp Tryz.prog Q a0 W3 := by
  obtain ⟨⟨g, r, b, x⟩, us, pins, db⟩ := p
  unfold hda hdc at hend
  simp only at hend
  have hXl := lt_of_row hx
  have hPl := lt_of_row hP
  refine rtn1 X P g r b x (.slice q1 n1 cap1) htab hdep hac a0 W3 hsz o4 (fun c L W => Mk1 W3 123 8 10 #[I 0, I 0, I 0, .string ⟨#[]⟩] #[I g, I r, I b, S x] c.a L W ∧ Mk1 W3 168 9 11 #[.slice none 0 0] #[.slice q1 n1 cap1] c.b L W) ⟨⟨0, 0⟩, Mk1.start _ _ _ _ _ _ _, Mk1.start _ _ _ _ _ _ _⟩ ?_ ?_ ?_ ?_ ?_ ?_ ?_ ?_ ?_ ?_
  · intro i hi c L W hW
    simp only [List.mem_cons, List.not_mem_nil, or_false, not_or] at hi
    exact ⟨hW.1.pure hi.1 hi.2.2.1, hW.2.pure hi.2.1 hi.2.2.2⟩
  · intro c L W hW _
    exact s_ld Tryz.isAgg57 ((cell_of_row _ _ 0 _ 57 (0, 0) ((hW.1.bel.block _ hXl).trans hx)))
  · intro c L W hW _ _
    exact s_ldr Tryz.isAgg123 Tryz.sizeOf123 ((hW.1.bel.block _ hPl).trans hP) [I g, I r, I b, S x] rfl rfl
  · intro c L W hW _
    exact s_ld Tryz.isAgg57 ((cell_of_row _ _ 0 _ 57 (0, 0) ((hW.1.bel.block _ hXl).trans hx)))
  · intro c L W hW _ _
    exact s_ld Tryz.isAgg168 ((cell_of_row _ _ (0 + 5) _ 172 (0, 0) ((hW.1.bel.block _ hPl).trans hP)))
  · intro c L W hW hL
    refine ⟨⟨W.heap.size, c.b⟩, _, fun j hj => ?_, s_al Tryz.zeroValue123, hW.1.alloc hL (by decide), hW.2.call ((Below.refl _ _).alloc (Nat.le_refl _) _) (by decide) (by decide)⟩
    unfold vrtn1
    split <;> first | rfl | (rw [hL] at hj; cases hj)
  · intro c L W hW hL
    refine ⟨⟨c.a, W.heap.size⟩, _, fun j hj => ?_, s_al Tryz.zeroValue168, hW.1.call ((Below.refl _ _).alloc (Nat.le_refl _) _) (by decide) (by decide), hW.2.alloc hL (by decide)⟩
    unfold vrtn1
    split <;> first | rfl | (rw [hL] at hj; cases hj)
  · intro c L W hW hL h3 h8
    refine ⟨_, hW.1.runs h8 hL Tryz.sizeOf123 _ rfl rfl rfl (by simp [Value.oneCell']), hW.1.fill h8 (by decide), hW.2.put (hW.1.box h8).1 (fun q => ne_type (hW.2.box q).2 (hW.1.box h8).2 (by decide)) _ (by decide) (by decide)⟩
  · intro c L W hW hL h7 h9
    refine ⟨_, hW.2.runs h9 hL Tryz.sizeOf168 _ rfl rfl rfl (by simp [Value.oneCell']), hW.1.put (hW.2.box h9).1 (fun q => ne_type (hW.1.box q).2 (hW.2.box h9).2 (by decide)) _ (by decide) (by decide), hW.2.fill h9 (by decide)⟩
  · intro c L W hall hW
    obtain ⟨u1, u2⟩ := hW.1.done (hall 8 (by omega)) (hall 10 (by omega))
    obtain ⟨u3, u4⟩ := hW.2.done (hall 9 (by omega)) (hall 11 (by omega))
    exact hend c.a c.b W hW.1.bel u1 u3 u2 u4
theorem turn_r2 {ops : Array Oper} {id : Nat} {Q : Exit → Act → World → Prop} (X Y : Nat) (W5 : World) (p : Pr) (x : Hd) (q1 q2 : Option Addr) (n1 cap1 n2 cap2 : Nat) (htab : ops.toList.map (fun o => (o.op, o.dst, o.guard)) = rtn2T) (hdep : deplB rtn2D ops = true) (hac : acB ops = true)
    (a0 : Act) (hsz : 28 ≤ a0.tmps.size) (o3 : a0.tmps[3]? = some (.slice q2 n2 cap2)) (o4 : a0.tmps[4]? = some (ptr X)) (o6 : a0.tmps[6]? = some (ptr Y)) (hx : W5.heap[X]? = some (.cells #[ptr P] 57 (0, 0))) (hy : W5.heap[Y]? = some (.cells (hdc x) 123 (0, 0))) (hP : W5.heap[P]? = some (.cells (pcs D p (.slice q1 n1 cap1)) 172 (0, 0)))
    (hend : ∀ W, Only (fun k => k = P) W5 W → W.heap[P]? = some (.cells (pcs D { p with h := x } (.slice q2 n2 cap2)) 172 (0, 0)) →
      Q .normal ((((((((a0.put (some 20) (ptr P)).put (some 21) (ptr P)).put (some 22) (hda x)).put (some 23) (.slice q2 n2 cap2)).put (some 24) (ptr P)).put (some 25) (.pointer (some ⟨P, 0 + 1, none⟩))).put (some 26) (ptr P)).put (some 27) (.pointer (some ⟨P, 0 + 5, none⟩))) W) : (Code.region id ops true).wp Tryz.prog Q a0 W5 := by
  obtain ⟨⟨g0, r0, b0, x0⟩, us, pins, db⟩ := p
  obtain ⟨g, r, b, x⟩ := x
  unfold hda at hend
  unfold hdc at hy
  simp only at hend hy
  have hXl := lt_of_row hx
  have hYl := lt_of_row hy
  have hXP : X ≠ P := ne_type hx hP (by decide)
  have hYP : Y ≠ P := ne_type hy hP (by decide)
  refine rtn2 X Y P g r b x (.slice q2 n2 cap2) htab hdep hac a0 W5 hsz o3 o4 o6 (fun _ L W => Only (fun k => k = P) W5 W ∧ W.heap[P]? = some (.cells (pcs D ⟨if L 6 = true then ⟨g, r, b, x⟩ else ⟨g0, r0, b0, x0⟩, us, pins, db⟩ (if L 9 = true then .slice q2 n2 cap2 else .slice q1 n1 cap1)) 172 (0, 0))) ⟨(), Only.of_below (Below.refl _ _).drew, hP⟩ ?_ ?_ ?_ ?_ ?_ ?_ ?_
  · intro i hi _ L W hW
    simp only [List.mem_cons, List.not_mem_nil, or_false, not_or] at hi
    rw [upd_ne (Ne.symm hi.1), upd_ne (Ne.symm hi.2)]
    exact hW
  · intro _ L W hW _
    exact s_ld Tryz.isAgg57 ((cell_of_row _ _ 0 _ 57 (0, 0) ((hW.1.block _ hXl hXP).trans hx)))
  · intro _ L W hW _
    exact s_ld Tryz.isAgg57 ((cell_of_row _ _ 0 _ 57 (0, 0) ((hW.1.block _ hXl hXP).trans hx)))
  · intro _ L W hW _
    exact s_ldr Tryz.isAgg123 Tryz.sizeOf123 ((hW.1.block _ hYl hYP).trans hy) [I g, I r, I b, S x] rfl rfl
  · intro _ L W hW hL _ _
    refine ⟨_, s_sta Tryz.sizeOf123 (o := 0 + 1) hW.2 _ rfl (by simp [pcs]) (by show ∀ y ∈ [I g, I r, I b, S x], y.oneCell' = true; simp [Value.oneCell']), hW.1.trans (setRow_Only _ _ _) (fun _ _ q => q), ?_⟩
    rw [setRow_row hW.2, upd_self, upd_ne (by decide), if_pos rfl]
    rfl
  · intro _ L W hW hL _ _
    refine ⟨_, s_sta Tryz.sizeOf168 (o := 0 + 5) hW.2 (.slice q2 n2 cap2) rfl (by simp [pcs]) (by show ∀ y ∈ [Value.slice q2 n2 cap2], y.oneCell' = true; simp [Value.oneCell']), hW.1.trans (setRow_Only _ _ _) (fun _ _ q => q), ?_⟩
    rw [setRow_row hW.2, upd_self, upd_ne (by decide), if_pos rfl]
    rfl
  · intro _ L W hall hW
    have := hW.2
    rw [hall 6 (by omega), hall 9 (by omega), if_pos rfl, if_pos rfl] at this
    exact hend W hW.1 this
end Go.Proofs.YtjopnhhdemfniaaGreatDoor
namespace Go.Proofs.YtjopnhhdemfniaaGreatDoor
open Go.RowKit
set_option maxHeartbeats 8000000
set_option maxRecDepth 8000
variable {P D : Nat} {d d1 d2 : Ds} {p : Pr} {vw vl vu : Value} {w w' : World}
theorem turn_r4 {ops : Array Oper} {id : Nat} {Q : Exit → Act → World → Prop} (X Y : Nat) (W6 : World) (p : Pr) (x : Hd) (vf : Value) (e : Int) (htab : ops.toList.map (fun o => (o.op, o.dst, o.guard)) = rtn4T) (hdep : deplB rtn4D ops = true) (hac : acB ops = true)
    (a0 : Act) (hsz : 37 ≤ a0.tmps.size) (o1 : a0.tmps[1]? = some vf) (o4 : a0.tmps[4]? = some (ptr X)) (o6 : a0.tmps[6]? = some (ptr Y)) (hx : W6.heap[X]? = some (.cells #[ptr P] 57 (0, 0))) (hy : W6.heap[Y]? = some (.cells (hdc x) 123 (0, 0))) (hP : W6.heap[P]? = some (.cells (pcs D p vu) 172 (0, 0))) (hd : DAt D d vw vl W6)
    (hc : ∀ W, Below W6.heap.size W6 W → Calls Tryz.prog 194 #[ptr D, vf, I x.gen] W fun eg w' => eg = .returned (I e) ∧ DTo D vw vl d1 W w')
    (hend : ∀ W, DTo D vw vl d1 W6 W →
      Q .normal (((((((((a0.put (some 29) (ptr P)).put (some 30) (ptr P)).put (some 31) (.pointer (some ⟨P, 0 + 0, none⟩))).put (some 32) (ptr D)).put (some 33) vf).put (some 34) (.pointer (some ⟨Y, 0 + 0, none⟩))).put (some 35) (I x.gen)).put (some 36) (I e)).put (some 11) (I e)) W) : (Code.region id ops true).wp Tryz.prog Q a0 W6 := by
  have hX := hd.noB hx (by decide) (by decide) (by decide)
  have hY := hd.noB hy (by decide) (by decide) (by decide)
  have hPo := hd.noB hP (by decide) (by decide) (by decide)
  have hXl := lt_of_row hx
  have hYl := lt_of_row hy
  have hPl := lt_of_row hP
  refine rtn4 X Y P D vf x.gen e htab hdep hac a0 W6 hsz o1 o4 o6 (fun _ L W => Only (Of D vw vl) W6 W ∧ (L 7 = false → Below W6.heap.size W6 W) ∧ (L 7 = true → DTo D vw vl d1 W6 W)) ⟨(), Only.of_below (Below.refl _ _).drew, fun _ => (Below.refl _ _).drew, fun q => nomatch q⟩ ?_ ?_ ?_ ?_ ?_ ?_
  · intro i hi _ L W hW
    simp only [List.mem_cons, List.not_mem_nil, or_false] at hi
    rw [upd_ne (Ne.symm hi)]
    exact hW
  · intro _ L W hW _
    exact s_ld Tryz.isAgg57 ((cell_of_row _ _ 0 _ 57 (0, 0) ((hW.1.block _ hXl hX).trans hx)))
  · intro _ L W hW _ _
    exact s_ld Tryz.isAgg55 ((cell_of_row _ _ 0 _ 172 (0, 0) ((hW.1.block _ hPl hPo).trans hP)))
  · intro _ L W hW _ _
    exact s_ld Tryz.isAgg3 ((cell_of_row _ _ 0 _ 123 (0, 0) ((hW.1.block _ hYl hY).trans hy)))
  · intro _ L W hW hL _ _ _
    refine (hc W (hW.2.1 hL)).mono ?_
    rintro eg w' ⟨rfl, q⟩
    have q2 : DTo D vw vl d1 W6 w' := DTo.trans (Only.of_below (hW.2.1 hL)) (fun _ r => .inl r) q
    refine ⟨(), fun _ _ => rfl, rfl, q2.out, fun h => ?_, fun _ => q2⟩
    rw [upd_self] at h
    cases h
  · intro _ L W hall hW
    exact hend W (hW.2.2 (hall 7 (by omega)))
theorem turn_r7 {ops : Array Oper} {id : Nat} {Q : Exit → Act → World → Prop} (X Y Z : Nat) (W7 : World) (p : Pr) (x : Hd) (e : Int) (htab : ops.toList.map (fun o => (o.op, o.dst, o.guard)) = rtn7T) (hdep : deplB rtn7D ops = true) (hac : acB ops = true)
    (a0 : Act) (hsz : 46 ≤ a0.tmps.size) (o4 : a0.tmps[4]? = some (ptr X)) (o6 : a0.tmps[6]? = some (ptr Y)) (o8 : a0.tmps[8]? = some (ptr Z)) (hx : W7.heap[X]? = some (.cells #[ptr P] 57 (0, 0))) (hy : W7.heap[Y]? = some (.cells (hdc x) 123 (0, 0))) (hz : W7.heap[Z]? = some (.cells #[I 0] 35 (0, 0))) (hP : W7.heap[P]? = some (.cells (pcs D p vu) 172 (0, 0))) (hd : DAt D d vw vl W7)
    (hc : ∀ W, Below W7.heap.size W7 W → Calls Tryz.prog 104 #[ptr D, hda x] W fun eg w' => eg = .returned (I e) ∧ DTo D vw vl d1 W w')
    (hend : ∀ W W', DTo D vw vl d1 W7 W → W' = W.setRow Z #[I e] → W.heap[Z]? = some (.cells #[I 0] 35 (0, 0)) →
      Q .normal ((((((a0.put (some 40) (ptr P)).put (some 41) (ptr P)).put (some 42) (.pointer (some ⟨P, 0 + 0, none⟩))).put (some 43) (ptr D)).put (some 44) (hda x)).put (some 45) (I e)) W') : (Code.region id ops true).wp Tryz.prog Q a0 W7 := by
  obtain ⟨g, r, b, xn⟩ := x
  unfold hda at hend hc
  unfold hdc at hy
  simp only at hend hy hc
  have hX := hd.noB hx (by decide) (by decide) (by decide)
  have hY := hd.noB hy (by decide) (by decide) (by decide)
  have hPo := hd.noB hP (by decide) (by decide) (by decide)
  have hZo := hd.noB hz (by decide) (by decide) (by decide)
  have hXl := lt_of_row hx
  have hYl := lt_of_row hy
  have hPl := lt_of_row hP
  have hZl := lt_of_row hz
  refine rtn7 X Y Z P D g r b e xn htab hdep hac a0 W7 hsz o4 o6 o8 (fun _ L W => Only (fun k => Of D vw vl k ∨ k = Z) W7 W ∧ (L 5 = false → Below W7.heap.size W7 W) ∧ (L 5 = true → L 6 = false → DTo D vw vl d1 W7 W) ∧ (L 6 = true → L 5 = true ∧ ∃ W0, DTo D vw vl d1 W7 W0 ∧ W = W0.setRow Z #[I e] ∧ W0.heap[Z]? = some (.cells #[I 0] 35 (0, 0)))) ⟨(), Only.of_below (Below.refl _ _).drew, fun _ => (Below.refl _ _).drew, (fun q => nomatch q), (fun q => nomatch q)⟩ ?_ ?_ ?_ ?_ ?_ ?_ ?_
  · intro i hi _ L W hW
    simp only [List.mem_cons, List.not_mem_nil, or_false, not_or] at hi
    rw [upd_ne (Ne.symm hi.1), upd_ne (Ne.symm hi.2)]
    exact hW
  · intro _ L W hW _
    exact s_ld Tryz.isAgg57 ((cell_of_row _ _ 0 _ 57 (0, 0) ((hW.1.block _ hXl (fun q => q.elim hX (ne_type hx hz (by decide)))).trans hx)))
  · intro _ L W hW _ _
    exact s_ld Tryz.isAgg55 ((cell_of_row _ _ 0 _ 172 (0, 0) ((hW.1.block _ hPl (fun q => q.elim hPo (ne_type hP hz (by decide)))).trans hP)))
  · intro _ L W hW _
    exact s_ldr Tryz.isAgg123 Tryz.sizeOf123 ((hW.1.block _ hYl (fun q => q.elim hY (ne_type hy hz (by decide)))).trans hy) [I g, I r, I b, S xn] rfl rfl
  · intro _ L W hW hL _ _
    refine (hc W (hW.2.1 hL)).mono ?_
    rintro eg w' ⟨rfl, q⟩
    have q2 : DTo D vw vl d1 W7 w' := DTo.trans (Only.of_below (hW.2.1 hL)) (fun _ r => .inl r) q
    refine ⟨(), fun _ _ => rfl, rfl, q2.out.mono (fun _ _ r => .inl r), fun h => ?_, fun _ _ => q2, fun h => ?_⟩
    · rw [upd_self] at h
      cases h
    · rw [upd_ne (by decide)] at h
      rw [(hW.2.2.2 h).1] at hL
      cases hL
  · intro _ L W hW hL h5
    have q2 := hW.2.2.1 h5 hL
    have hzW : W.heap[Z]? = some (.cells #[I 0] 35 (0, 0)) := (q2.out.block _ hZl hZo).trans hz
    refine ⟨_, s_sta Tryz.sizeOf35 (o := 0) hzW (I e) rfl (by simp) (by show ∀ y ∈ [I e], y.oneCell' = true; simp [Value.oneCell']), hW.1.trans (setRow_Only _ _ _) (fun _ _ q => .inr q), fun h => ?_, fun _ h => ?_, fun _ => ⟨?_, W, q2, rfl, hzW⟩⟩
    · rw [upd_ne (by decide), h5] at h
      cases h
    · rw [upd_self] at h
      cases h
    · rw [upd_ne (by decide)]
      exact h5
  · intro _ L W hall hW
    obtain ⟨_, W0, u1, u2, u3⟩ := hW.2.2.2 (hall 6 (by omega))
    exact hend W0 W u1 u2 u3
/-- A word in a cell comes out. -/
theorem results_c1s {fn : Func} {p : Tmp} (h : fn.results = #[.cell p 35]) (tmps : Array Value) (w : World) (b : Nat) (v : Value) (ht : tmps.getD p undef = .pointer (some ⟨b, 0, none⟩)) (hv : w.cell? ⟨b, 0, none⟩ = some v) : (results fn tmps).run Tryz.prog w = .ok v w := by
  have ht' : tmps[p]?.getD undef = .pointer (some ⟨b, 0, none⟩) := by simpa using ht
  have hl : (loadVar 35 ⟨b, 0, none⟩).run Tryz.prog w = .ok v w := by
    have e := s_ld (w := w) Tryz.isAgg35 hv
    simpa [Instr.loadAt, Instr.sureAddr] using e
  simp only [results, h]
  simp [ht', asAddr, hl]
theorem wps_acts (g : Int) : ∀ (l : List Pg) (d : Ds), d.acts ≤ (wps g d l).2.acts ∧ (wps g d l).2.acts ≤ d.acts + l.length + 1
  | [], d => by have := sync_acts d; show _ ≤ d.sync.acts ∧ d.sync.acts ≤ _; simp; omega
  | x :: l, d => by
    have h0 := write_acts d x.number (x.born g).blk
    unfold wps
    split
    · simp; omega
    · have := wps_acts g l (d.write x.number (x.born g).blk)
      simp only [List.length_cons]
      omega
end Go.Proofs.YtjopnhhdemfniaaGreatDoor
namespace Go.Proofs.YtjopnhhdemfniaaGreatDoor
open Go.RowKit
set_option maxHeartbeats 8000000
set_option maxRecDepth 8000
variable {P D : Nat} {d : Ds} {p : Pr} {vw vl vu : Value} {w w' : World}
/-- Three boxes at once. -/
structure Bx3 (w : World) (a b c d e : Value) (W : World) : Prop where
  x4 : W.heap[w.heap.size]? = some (.cells #[a] 57 (0, 0))
  x6 : W.heap[w.heap.size + 1]? = some (.cells #[b, c, d, e] 123 (0, 0))
  x8 : W.heap[w.heap.size + 2]? = some (.cells #[I 0] 35 (0, 0))
  sz : W.heap.size = w.heap.size + 3
  bel : Below w.heap.size w W
theorem three_boxes (w : World) (a b c d e : Value) : Bx3 w a b c d e (((w.alloc (.cells #[a] 57)).alloc (.cells #[b, c, d, e] 123)).alloc (.cells #[I 0] 35)) := by
  have h1 := heap_alloc_new w (.cells #[a] 57)
  have h2 := heap_alloc_new (w.alloc (.cells #[a] 57)) (.cells #[b, c, d, e] 123)
  have h3 := heap_alloc_new ((w.alloc (.cells #[a] 57)).alloc (.cells #[b, c, d, e] 123)) (.cells #[I 0] 35)
  have s1 : (w.alloc (.cells #[a] 57)).heap.size = w.heap.size + 1 := by simp
  have s2 : ((w.alloc (.cells #[a] 57)).alloc (.cells #[b, c, d, e] 123)).heap.size = w.heap.size + 2 := by simp
  have s3 : (((w.alloc (.cells #[a] 57)).alloc (.cells #[b, c, d, e] 123)).alloc (.cells #[I 0] 35)).heap.size = w.heap.size + 3 := by simp
  rw [s1] at h2
  rw [s2] at h3
  exact ⟨(heap_alloc_old _ _ (by omega)).trans ((heap_alloc_old _ _ (by omega)).trans h1), (heap_alloc_old _ _ (by omega)).trans h2, h3, s3, (((Below.refl w.heap.size w).alloc (Nat.le_refl _) _).alloc (by omega) _).alloc (by omega) _⟩
/-- What a turn leaves. -/
def TrnTo (P D : Nat) (d : Ds) (p : Pr) (vw vl vu va : Value) (ua : Us) (x : Hd) (l : List Pg) (w w' : World) : Prop :=
  ∃ vw' vu', PD P D (trd d l x) (if trv d l x = 0 then { p with h := x, use := ua } else { p with doubt := true }) vw' vl vu' w' ∧ Only (POf P D vw vl vu) w w' ∧ (∀ k, vw'.ownBlock = some k → vw.ownBlock = some k ∨ w.heap.size ≤ k) ∧ (vu' = vu ∨ vu' = va)
theorem turn_any (h : PD P D d p vw vl vu w) (a : Option Addr) (n cap : Nat) (l : List Pg) (x : Hd) (va : Value) (ua : Us) (hua : Uls w va ua) (hul : ua.length = d.last.length) (hm : x.may = true) (hst : ∀ W, Only (POf P D vw vl vu) w W → Pgs W a n l) (hfr : ∀ x ∈ l, x.fresh = true) (ha : 0 ≤ d.acts ∧ d.acts + n ≤ 9999999999999999) (hn : n ≤ 1000000) :
    Calls Tryz.prog 131 #[ptr P, .slice a n cap, hda x, va] w fun e w' => e = .returned (I (trv d l x)) ∧ TrnTo P D d p vw vl vu va ua x l w w' := by
  have hgn : isGn x.gen = true := by
    have q := hm
    simp only [Hd.may, Bool.and_eq_true] at q
    exact q.1.1.1
  have hlen : l.length = n := ((hst w (Only.refl _ _)).1).symm
  have hok := wps_ok x.gen l d h.ok
  have hac := wps_acts x.gen l d
  rw [hlen] at hac
  have C4 := hide (fun W (q : DAt D d vw vl W) (r : ∀ W', Only (Of D vw vl) W W' → Pgs W' a n l) => writePages_any q h.ok a n cap l x.gen hgn r hfr (by omega) hn)
  have C7 := hide (fun W vw1 (q : DAt D (wps x.gen d l).2 vw1 vl W) => writeHead_any q hok.1 (by omega) x hm)
  have hok2 := wrhd_ok x hok.1
  have HOK := hide hok
  have HOK2 := hide hok2
  have HTT := hide (fun w' (q : ∃ vw' vu', PD P D (if (wps x.gen d l).1 ≠ 0 then (wps x.gen d l).2 else wrhd (wps x.gen d l).2 x) (if (if (wps x.gen d l).1 ≠ 0 then (wps x.gen d l).1 else wrhv (wps x.gen d l).2 x) = 0 then { p with h := x, use := ua } else { p with doubt := true }) vw' vl vu' w' ∧ Only (POf P D vw vl vu) w w' ∧ (∀ k, vw'.ownBlock = some k → vw.ownBlock = some k ∨ w.heap.size ≤ k) ∧ (vu' = vu ∨ vu' = va)) => (show TrnTo P D d p vw vl vu va ua x l w w' from q))
  have HV := hide (show trv d l x = if (wps x.gen d l).1 ≠ 0 then (wps x.gen d l).1 else wrhv (wps x.gen d l).2 x from rfl)
  generalize TrnTo P D d p vw vl vu va ua x l w = TT at *
  generalize trv d l x = V at *
  clear hok hok2 hac ha hgn hfr hm hn hlen
  generalize (wps x.gen d l).1 = e1 at *
  generalize wrhv (wps x.gen d l).2 x = e2 at *
  generalize wrhd (wps x.gen d l).2 x = d2 at *
  generalize (wps x.gen d l).2 = d1 at *
  obtain ⟨q1, cap1, hv1⟩ := owns_form h.us
  obtain ⟨q2, cap2, hv2⟩ := owns_form hua
  have HST := hide hst
  have HD := hide h
  have HU := hide hua
  have HUL := hide hul
  clear h hua hst hul
  subst hv1 hv2
  generalize hul1 : p.use.length = ul at *
  clear hul1
  generalize hul2 : ua.length = ul2 at *
  have HL2 := hide hul2
  clear hul2
  have hW := three_boxes w (ptr P) (I x.gen) (I x.root) (I x.blocks) (S x.note)
  have HW := hide hW
  clear hW
  unfold hda
  have hmf : ∀ (fn : Fn) (first cap : Array Value) (w : World), (Instr.makeFunc fn first cap).run Tryz.prog w = .ok (.func fn first cap) w := fun _ _ _ _ => rfl
  go_enter_defers Tryz.func131, Tryz.ntmps131
  go_upto_region 1 with fail
  generalize hW3 : ((w.alloc (.cells #[ptr P] 57)).alloc (.cells #[I x.gen, I x.root, I x.blocks, S x.note] 123)).alloc (.cells #[I 0] 35) = W3 at *
  clear hW3
  have hP3 := (unhide HD).below (unhide HW).bel
  refine turn_r1 (D := D) w.heap.size W3 p q1 ul cap1 (by kernel_rfl) (by kernel_rfl) (by kernel_rfl) _ (by show 20 ≤ Array.size _; simp) rfl (unhide HW).x4 hP3.blk ?_
  intro ca cb W5 hB5 hca hcb hra hrb
  have hB35 : Below w.heap.size w W5 := (unhide HW).bel.trans (hB5.mono (unhide HW).bel.size)
  have hP5 := (unhide HD).below hB35
  have hsz := (unhide HW).sz
  have hT5 : Tb P x p.h (.slice q1 ul cap1) w.heap.size (w.heap.size + 1) (w.heap.size + 2) ca cb 0 W5 := ⟨(hB5.block _ (by omega)).trans (unhide HW).x4, (hB5.block _ (by omega)).trans (unhide HW).x6, (hB5.block _ (by omega)).trans (unhide HW).x8, hra, hrb⟩
  have HT5 := hide hT5
  have HP5 := hide hP5
  have HB5 := hide hB35
  have hu5 : Uls W5 (.slice q2 ul2 cap2) ua := owns_below (unhide HU) hB35
  have HU5 := hide hu5
  clear hP3 hP5 hT5 hB35 hB5 hra hrb hca hcb hsz hu5
  simp only [Act.put, List.setIfInBounds_toArray, List.set_cons_succ, List.set_cons_zero]
  go_upto_region 2 with fail
  refine turn_r2 (D := D) w.heap.size (w.heap.size + 1) W5 p x q1 q2 ul cap1 ul2 cap2 (by kernel_rfl) (by kernel_rfl) (by kernel_rfl) _ (by show 28 ≤ Array.size _; simp) rfl rfl rfl (unhide HT5).x4 (unhide HT5).x6 (unhide HP5).blk ?_
  intro W6 hO6 hr6
  have hT6 := (unhide HT5).pager (unhide HP5).blk hO6
  have hOn6 : Only (POf P D vw vl (.slice q1 ul cap1)) w W6 := (Only.of_below (unhide HB5)).trans hO6 (fun k _ q => .inl q)
  have hneu : ∀ k, (Value.slice q2 ul2 cap2).ownBlock = some k → ¬ k = P := fun k hk e => by
    obtain ⟨cs, q⟩ := owns_lt (unhide HU5) k hk
    rw [e, (unhide HP5).blk] at q
    cases q
  have hu6 : Uls W6 (.slice q2 ul2 cap2) ua := owns_only (unhide HU5) hO6 hneu
  have hv6 : Uls W6 (.slice q1 ul cap1) p.use := owns_only (unhide HP5).us hO6 (fun k hk e => (unhide HP5).uP (by rw [← e]; exact hk))
  have hP6 : PD P D d { p with h := x, use := ua } vw vl (.slice q2 ul2 cap2) W6 := ⟨(unhide HP5).dat.only hO6 (fun k hk e => (unhide HP5).neP k hk e), (unhide HP5).ok, hr6, hu6, (unhide HL2).trans (unhide HUL)⟩
  have HT6 := hide hT6
  have HO6 := hide hOn6
  have HP6 := hide hP6
  have HV6 := hide hv6
  clear hO6 hr6 hT6 hOn6 hneu hu6 hv6 hP6
  simp only [Act.put, List.setIfInBounds_toArray, List.set_cons_succ, List.set_cons_zero]
  go_upto_region 4 with fail
  refine turn_r4 (D := D) (d := d) (d1 := d1) (vw := vw) (vl := vl) w.heap.size (w.heap.size + 1) W6 { p with h := x, use := ua } x (.slice a n cap) e1 (by kernel_rfl) (by kernel_rfl) (by kernel_rfl) _ (by show 37 ≤ Array.size _; simp) rfl rfl rfl (unhide HT6).x4 (unhide HT6).x6 (unhide HP6).blk (unhide HP6).dat ?_ ?_
  · intro W hb
    exact unhide C4 W ((unhide HP6).dat.below hb) (fun W' o => unhide HST W' ((unhide HO6).trans ((Only.of_below hb).trans o (fun _ _ q => q)) (fun k _ q => .inr (.inr q))))
  intro W7 hto
  have hT7 := (unhide HT6).disk (unhide HP6).dat hto.out
  obtain ⟨vw1, hP7, hO7, hn7⟩ := (unhide HP6).disk hto (unhide HOK).1 (unhide HOK).2
  have hv7 : Uls W7 (.slice q1 ul cap1) p.use := owns_only (unhide HV6) hto.out (fun k hk e => by
    obtain ⟨cs, t, q, ht⟩ := (unhide HP6).dat.kind k e
    obtain ⟨cs2, q2⟩ := owns_lt (unhide HV6) k hk
    rw [q2] at q
    cases q
    rcases ht with h | h | h <;> exact absurd h (by decide))
  have hOn7 : Only (POf P D vw vl (.slice q1 ul cap1)) w W7 := (unhide HO6).trans hto.out (fun k _ q => .inr (.inr q))
  have hn7' : ∀ k, vw1.ownBlock = some k → vw.ownBlock = some k ∨ w.heap.size ≤ k := fun k hk => (hn7 k hk).imp id (fun q => Nat.le_trans (unhide HO6).size q)
  have HT7 := hide hT7
  have HP7 := hide hP7
  have HV7 := hide hv7
  have HO7 := hide hOn7
  have HN7 := hide hn7'
  clear hT7 hP7 hO7 hn7 hv7 hOn7 hn7' hto HT6 HP6 HV6 HT5 HP5 HU5 HB5 C4
  simp only [Act.put, List.setIfInBounds_toArray, List.set_cons_succ, List.set_cons_zero]
  -- what is left once an error stands in the cell
  have BAD : ∀ (W : World) (ee : Int) (d9 : Ds) (vw9 : Value), (ee != 0) = true → PD P D d9 { p with h := x, use := ua } vw9 vl (.slice q2 ul2 cap2) W → Tb P x p.h (.slice q1 ul cap1) w.heap.size (w.heap.size + 1) (w.heap.size + 2) ca cb ee W → Uls W (.slice q1 ul cap1) p.use → p.use.length = d9.last.length →
      CallsD Tryz.prog 193 #[ptr (w.heap.size + 2), ptr ca, ptr cb, ptr w.heap.size] .returning W fun e u' w' => u' = .returning ∧ e = .returned (.tuple #[]) ∧ PD P D d9 { p with doubt := true } vw9 vl (.slice q1 ul cap1) w' ∧ Only (fun k => k = P) W w' ∧ w'.cell? ⟨w.heap.size + 2, 0, none⟩ = some (I ee) := by
    intro W ee d9 vw9 hne hP hT hv hl
    refine (fin_bad (w.heap.size + 2) ca cb w.heap.size .returning W ee hne (cell_of_row _ _ 0 _ 35 (0, 0) hT.x8) p.h q1 ul cap1 hT.x9 (cell_of_row _ _ 0 _ 168 (0, 0) hT.x10) (cell_of_row _ _ 0 _ 57 (0, 0) hT.x4) hP).mono ?_
    rintro e u' w'' ⟨rfl, rfl, rfl⟩
    obtain ⟨r1, r2⟩ := hP.back p.h (.slice q1 ul cap1) p.use hv hl
    exact ⟨rfl, rfl, r1, r2, cell_of_row _ _ 0 _ 35 (0, 0) ((r2.block _ (lt_of_row hT.x8) (ne_type hT.x8 hP.blk (by decide))).trans hT.x8)⟩
  have HBAD := hide BAD
  clear BAD
  have HLP := hide (unhide HD).len
  by_cases he : e1 = 0
  · subst he
    go_upto_region 7 with fail
    refine turn_r7 (D := D) (d := d1) (d1 := d2) (vw := vw1) (vl := vl) w.heap.size (w.heap.size + 1) (w.heap.size + 2) W7 { p with h := x, use := ua } x e2 (by kernel_rfl) (by kernel_rfl) (by kernel_rfl) _ (by show 46 ≤ Array.size _; simp) rfl rfl rfl (unhide HT7).x4 (unhide HT7).x6 (unhide HT7).x8 (unhide HP7).blk (unhide HP7).dat ?_ ?_
    · intro W hb
      exact unhide C7 W vw1 ((unhide HP7).dat.below hb)
    intro W8 W9 hto hW9 hz8
    have hT8 := (unhide HT7).disk (unhide HP7).dat hto.out
    obtain ⟨vw2, hP8, hO8, hn8⟩ := (unhide HP7).disk hto (unhide HOK2).1 (unhide HOK2).2
    have hv8 : Uls W8 (.slice q1 ul cap1) p.use := owns_only (unhide HV7) hto.out (fun k hk e => by
      obtain ⟨cs, t, q, ht⟩ := (unhide HP7).dat.kind k e
      obtain ⟨cs2, q2⟩ := owns_lt (unhide HV7) k hk
      rw [q2] at q
      cases q
      rcases ht with h | h | h <;> exact absurd h (by decide))
    have hT9 : Tb P x p.h (.slice q1 ul cap1) w.heap.size (w.heap.size + 1) (w.heap.size + 2) ca cb e2 W9 := by rw [hW9]; exact hT8.row8
    have o9 : Only (fun k => k = w.heap.size + 2) W8 W9 := by rw [hW9]; exact setRow_Only _ _ _
    have hP9 : PD P D d2 { p with h := x, use := ua } vw2 vl (.slice q2 ul2 cap2) W9 := hP8.only o9 (fun k hk e => by
      rcases hk with hk | hk | hk
      · rw [← e, hk, hP8.blk] at hz8
        cases hz8
      · obtain ⟨cs, q⟩ := owns_lt hP8.us k hk
        rw [e, hz8] at q
        cases q
      · obtain ⟨cs, t, q, ht⟩ := hP8.dat.kind k hk
        rw [e, hz8] at q
        cases q
        rcases ht with h | h | h <;> exact absurd h (by decide))
    have hv9 : Uls W9 (.slice q1 ul cap1) p.use := owns_only hv8 o9 (fun k hk e => by
      obtain ⟨cs, q⟩ := owns_lt hv8 k hk
      rw [e, hz8] at q
      cases q)
    have hOn9 : Only (POf P D vw vl (.slice q1 ul cap1)) w W9 := by
      refine ((unhide HO7).trans hto.out (fun k hk q => ?_)).trans o9 (fun k hk q => absurd q (by omega))
      rcases q with q | q | q
      · exact .inr (.inr (.inl q))
      · rcases unhide HN7 k q with r | r
        · exact .inr (.inr (.inr (.inl r)))
        · omega
      · exact .inr (.inr (.inr (.inr q)))
    have hn9 : ∀ k, vw2.ownBlock = some k → vw.ownBlock = some k ∨ w.heap.size ≤ k := fun k hk => by
      rcases hn8 k hk with q | q
      · exact unhide HN7 k q
      · exact .inr (Nat.le_trans (unhide HO7).size q)
    have hl9 : p.use.length = d2.last.length := by
      have := unhide HLP
      have h1 := (unhide HOK).2
      have h2 := (unhide HOK2).2
      omega
    have HP9 := hide hP9
    have HT9 := hide hT9
    have HV9 := hide hv9
    have HO9 := hide hOn9
    have HN9 := hide hn9
    have HL9 := hide hl9
    clear hP8 hO8 hn8 hv8 hT9 o9 hP9 hv9 hOn9 hn9 hl9 hT8 hto hz8 hW9 HT7 HP7 HV7 HO7 HN7 C7
    simp only [Act.put, List.setIfInBounds_toArray, List.set_cons_succ, List.set_cons_zero]
    go_wp2
    refine leaves_cons (f := 193) (args := #[ptr (w.heap.size + 2), ptr ca, ptr cb, ptr w.heap.size]) (by simp) (by simp [go_sem]) ?_
    by_cases he2 : e2 = 0
    · subst he2
      refine (fin_ok (w.heap.size + 2) ca cb w.heap.size .returning W9 (cell_of_row _ _ 0 _ 35 (0, 0) (unhide HT9).x8)).mono ?_
      rintro e u' w'' ⟨rfl, rfl, rfl⟩
      refine ⟨_, results_c1s Tryz.results131 _ _ (w.heap.size + 2) (I 0) (by rfl) (cell_of_row _ _ 0 _ 35 (0, 0) (unhide HT9).x8), by rw [unhide HV]; simp, unhide HTT _ ?_⟩
      exact ⟨vw2, .slice q2 ul2 cap2, by simpa using unhide HP9, unhide HO9, unhide HN9, .inr rfl⟩
    · refine (unhide HBAD W9 e2 d2 vw2 (by simpa using he2) (unhide HP9) (unhide HT9) (unhide HV9) (unhide HL9)).mono ?_
      rintro e u' w'' ⟨rfl, rfl, r1, r2, r3⟩
      refine ⟨_, results_c1s Tryz.results131 _ _ (w.heap.size + 2) (I e2) (by rfl) r3, by rw [unhide HV]; simp, unhide HTT _ ?_⟩
      exact ⟨vw2, .slice q1 ul cap1, by simpa [he2] using r1, (unhide HO9).trans r2 (fun k _ q => .inl q), unhide HN9, .inl rfl⟩
  · have hne : (e1 != 0) = true := by simpa using he
    have HE := hide he
    clear he
    have hT7 := unhide HT7
    have c8 := cell_of_row _ _ 0 _ 35 (0, 0) hT7.x8
    have f8 := frz hT7.x8 0
    have hW8 : W7.setCell ⟨w.heap.size + 1 + 1, 0, none⟩ (I e1) = W7.setRow (w.heap.size + 2) #[I e1] := setCell_eq_setRow W7 (w.heap.size + 2) 0 _ _ _ (I e1) hT7.x8
    have HW8 := hide hW8
    clear hT7 hW8
    go_wp2
    rw [unhide HW8]
    have hT8 := unhide HT7
    have hP8 := unhide HP7
    have hv8 := unhide HV7
    have hz8 := hT8.x8
    have hT9 : Tb P x p.h (.slice q1 ul cap1) w.heap.size (w.heap.size + 1) (w.heap.size + 2) ca cb e1 (W7.setRow (w.heap.size + 2) #[I e1]) := hT8.row8
    have o9 : Only (fun k => k = w.heap.size + 2) W7 (W7.setRow (w.heap.size + 2) #[I e1]) := setRow_Only _ _ _
    have hP9 : PD P D d1 { p with h := x, use := ua } vw1 vl (.slice q2 ul2 cap2) (W7.setRow (w.heap.size + 2) #[I e1]) := hP8.only o9 (fun k hk e => by
      rcases hk with hk | hk | hk
      · rw [← e, hk, hP8.blk] at hz8
        cases hz8
      · obtain ⟨cs, q⟩ := owns_lt hP8.us k hk
        rw [e, hz8] at q
        cases q
      · obtain ⟨cs, t, q, ht⟩ := hP8.dat.kind k hk
        rw [e, hz8] at q
        cases q
        rcases ht with h | h | h <;> exact absurd h (by decide))
    have hv9 : Uls (W7.setRow (w.heap.size + 2) #[I e1]) (.slice q1 ul cap1) p.use := owns_only hv8 o9 (fun k hk e => by
      obtain ⟨cs, q⟩ := owns_lt hv8 k hk
      rw [e, hz8] at q
      cases q)
    have hOn9 : Only (POf P D vw vl (.slice q1 ul cap1)) w (W7.setRow (w.heap.size + 2) #[I e1]) := (unhide HO7).trans o9 (fun k hk q => absurd q (by omega))
    have hl9 : p.use.length = d1.last.length := by
      have := unhide HLP
      have h1 := (unhide HOK).2
      omega
    have he := unhide HE
    refine leaves_cons (f := 193) (args := #[ptr (w.heap.size + 2), ptr ca, ptr cb, ptr w.heap.size]) (by simp) (by simp [go_sem]) ?_
    refine (unhide HBAD _ e1 d1 vw1 hne hP9 hT9 hv9 hl9).mono ?_
    rintro e u' w'' ⟨rfl, rfl, r1, r2, r3⟩
    refine ⟨_, results_c1s Tryz.results131 _ _ (w.heap.size + 2) (I e1) (by rfl) r3, by rw [unhide HV, if_pos he], unhide HTT _ ?_⟩
    exact ⟨vw1, .slice q1 ul cap1, by simpa [he] using r1, hOn9.trans r2 (fun k _ q => .inl q), unhide HN7, .inl rfl⟩
end Go.Proofs.YtjopnhhdemfniaaGreatDoor
/- What a commit comes to, of lists alone. -/
namespace Go.Proofs.YtjopnhhdemfniaaGreatDoor
def nxh (p : Pr) (root : Int) (note : Bs) : Hd := ⟨p.h.gen + 1, root, p.h.blocks, note⟩
def cmr (d : Ds) (p : Pr) (l : List Pg) (root : Int) (note : Bs) (gone : List Int) : Int × Ds × Pr :=
  if note.length ≠ 16 then (1, d, p) else
  if (l.all Pg.fresh && rsg (l.map Pg.number) && rsg gone) = false then (94, d, p) else
  if askv d p ≠ 0 then (askv d p, d, p.ask d) else
  if (decide (l.map Pg.number = (sel (p.ask d).use frb).take l.length) && gone.all (hasv (p.ask d).use · 1)) = false then (94, d, p.ask d) else
  if clo (after (p.ask d).use (l.map Pg.number) gone) l root = false then (94, d, p.ask d) else
  if (p.ask d).h.gen = 4611686018427387904 then (96, d, p.ask d) else
  (trv d l (nxh (p.ask d) root note), trd d l (nxh (p.ask d) root note), if trv d l (nxh (p.ask d) root note) = 0 then { p.ask d with h := nxh (p.ask d) root note, use := after (p.ask d).use (l.map Pg.number) gone } else { p.ask d with doubt := true })
theorem sel_mem {u : Us} {f : UInt8 → Bool} {z : Int} (h : z ∈ sel u f) : 2 ≤ z ∧ z < u.length := by
  unfold sel selk at h
  simp only [List.mem_map, List.mem_filter, List.mem_range, Bool.and_eq_true, decide_eq_true_eq] at h
  obtain ⟨n, ⟨h1, h2, _⟩, rfl⟩ := h
  omega
theorem trn_off (f : UInt8 → UInt8) (k : Nat) : ∀ (l : List Int) (u : Us), (∀ z ∈ l, z.toNat ≠ k) → (trn f u l).getD k 0 = u.getD k 0
  | [], _, _ => rfl
  | z :: l, u, h => by
    have e : trn f u (z :: l) = trn f (u.set z.toNat (f (u.getD z.toNat 0))) l := rfl
    rw [e, trn_off f k l _ (fun y hy => h y (List.mem_cons_of_mem _ hy))]
    have hz := h z List.mem_cons_self
    simp [hz]
theorem and_low (x : UInt8) : (x &&& 254) &&& 1 = 0 := by
  rw [UInt8.and_assoc, show (254 &&& 1 : UInt8) = 0 from rfl]
  simp
theorem trn_low (k : Nat) : ∀ (l : List Int) (u : Us), u.getD k 0 &&& 1 = 0 → (trn (· &&& 254) u l).getD k 0 &&& 1 = 0
  | [], _, h => h
  | z :: l, u, h => by
    have e : trn (· &&& 254) u (z :: l) = trn (· &&& 254) (u.set z.toNat (u.getD z.toNat 0 &&& 254)) l := rfl
    rw [e]
    apply trn_low k l
    by_cases hz : z.toNat = k
    · subst hz
      by_cases hl : z.toNat < u.length
      · simp only [List.getD_eq_getElem?_getD, List.getElem?_set_self hl, Option.getD_some]
        exact and_low _
      · rw [List.set_eq_of_length_le (by omega)]
        exact h
    · rw [List.getD_eq_getElem?_getD, List.getElem?_set_ne hz]
      simpa using h
theorem after_len (u : Us) (a b : List Int) : (after u a b).length = u.length := by
  unfold after
  rw [trn_len, trn_len]
theorem after_low (u : Us) (a b : List Int) (k : Nat) (hk : k < 2) (h : u.getD k 0 &&& 1 = 0) (ha : ∀ z ∈ a, 2 ≤ z) : (after u a b).getD k 0 &&& 1 = 0 := by
  unfold after
  rw [trn_off _ k _ _ (fun z hz => by have := ha z hz; omega)]
  exact trn_low k b u h
/-- A pager as it is behind Mount. -/
structure Prok (d : Ds) (p : Pr) : Prop where
  may : p.h.may = true
  blocks : p.h.blocks = (d.last.length : Int)
  len : p.use.length = d.last.length
  low0 : p.use.getD 0 0 &&& 1 = 0
  low1 : p.use.getD 1 0 &&& 1 = 0
theorem clo_root {u : Us} {l : List Pg} {root : Int} (h : clo u l root = true) (h0 : u.getD 0 0 &&& 1 = 0) (h1 : u.getD 1 0 &&& 1 = 0) : root = 0 ∨ 2 ≤ root ∧ root < u.length := by
  simp only [clo, Bool.and_eq_true, Bool.or_eq_true, decide_eq_true_eq] at h
  rcases h.1 with q | q
  · exact .inl q
  · right
    simp only [hasv, Bool.and_eq_true, decide_eq_true_eq] at q
    obtain ⟨⟨q1, q2⟩, q3⟩ := q
    refine ⟨?_, q2⟩
    by_cases r : root = 0
    · subst r
      rw [show ((0 : Int).toNat) = 0 from rfl, h0] at q3
      exact absurd q3 (by decide)
    · by_cases r1 : root = 1
      · subst r1
        rw [show ((1 : Int).toNat) = 1 from rfl, h1] at q3
        exact absurd q3 (by decide)
      · omega
theorem nxh_may {d : Ds} {p : Pr} {l : List Pg} {root : Int} {note : Bs} {gone : List Int} (hp : Prok d p) (hn : note.length = 16) (he : l.map Pg.number = (sel p.use frb).take l.length) (hc : clo (after p.use (l.map Pg.number) gone) l root = true) (hg : p.h.gen ≠ 4611686018427387904) : (nxh p root note).may = true := by
  have hm := hp.may
  have hge : ∀ z ∈ l.map Pg.number, 2 ≤ z := fun z hz => by
    rw [he] at hz
    exact (sel_mem (List.mem_of_mem_take hz)).1
  have hr := clo_root hc (after_low _ _ _ 0 (by omega) hp.low0 hge) (after_low _ _ _ 1 (by omega) hp.low1 hge)
  rw [after_len, hp.len] at hr
  have hb := hp.blocks
  unfold nxh
  simp only [Hd.may, isGn, Bool.and_eq_true, Bool.or_eq_true, decide_eq_true_eq] at hm ⊢
  omega
theorem num_in {p : Pr} {l : List Pg} (he : l.map Pg.number = (sel p.use frb).take l.length) (k : Nat) (hk : k < l.length) : 0 ≤ (l.map Pg.number).getD k 0 ∧ (l.map Pg.number).getD k 0 < p.use.length := by
  have hm : (l.map Pg.number).getD k 0 ∈ l.map Pg.number := by
    rw [List.getD_eq_getElem?_getD, List.getElem?_eq_getElem (by simpa using hk)]
    exact List.getElem_mem _
  rw [he] at hm
  have := sel_mem (List.mem_of_mem_take hm)
  rw [← he] at this
  omega
theorem gone_in {p : Pr} {gone : List Int} (h : gone.all (hasv p.use · 1) = true) (k : Nat) (hk : k < gone.length) : 0 ≤ gone.getD k 0 ∧ gone.getD k 0 < p.use.length := by
  have hm : gone.getD k 0 ∈ gone := by
    rw [List.getD_eq_getElem?_getD, List.getElem?_eq_getElem hk]
    exact List.getElem_mem _
  have := List.all_eq_true.1 h _ hm
  exact hasv_in this
end Go.Proofs.YtjopnhhdemfniaaGreatDoor
namespace Go.Proofs.YtjopnhhdemfniaaGreatDoor
open Go.RowKit
set_option maxHeartbeats 8000000
set_option maxRecDepth 8000
variable {P D : Nat} {d : Ds} {p : Pr} {vw vl vu : Value} {w w' : World}
/-- A pager and its disk behind a call. -/
def PTo (P D : Nat) (d : Ds) (p : Pr) (vw vl vu : Value) (w w' : World) : Prop :=
  ∃ vw' vu', PD P D d p vw' vl vu' w' ∧ Only (POf P D vw vl vu) w w' ∧ (∀ k, vw'.ownBlock = some k → vw.ownBlock = some k ∨ w.heap.size ≤ k) ∧ (∀ k, vu'.ownBlock = some k → vu.ownBlock = some k ∨ w.heap.size ≤ k)
theorem PTo.same (h : PD P D d p vw vl vu w') (o : Only (POf P D vw vl vu) w w') : PTo P D d p vw vl vu w w' := ⟨vw, vu, h, o, fun _ q => .inl q, fun _ q => .inl q⟩
theorem cmr_eq (d : Ds) (p : Pr) (l : List Pg) (root : Int) (note : Bs) (gone : List Int) : cmr d p l root note gone = (
  if note.length ≠ 16 then (1, d, p) else
  if (l.all Pg.fresh && rsg (l.map Pg.number) && rsg gone) = false then (94, d, p) else
  if askv d p ≠ 0 then (askv d p, d, p.ask d) else
  if (decide (l.map Pg.number = (sel (p.ask d).use frb).take l.length) && gone.all (hasv (p.ask d).use · 1)) = false then (94, d, p.ask d) else
  if clo (after (p.ask d).use (l.map Pg.number) gone) l root = false then (94, d, p.ask d) else
  if (p.ask d).h.gen = 4611686018427387904 then (96, d, p.ask d) else
  (trv d l (nxh (p.ask d) root note), trd d l (nxh (p.ask d) root note), if trv d l (nxh (p.ask d) root note) = 0 then { p.ask d with h := nxh (p.ask d) root note, use := after (p.ask d).use (l.map Pg.number) gone } else { p.ask d with doubt := true })) := rfl
theorem commit_any (h : PD P D d p vw vl vu w) (hp : Prok d p) (a a2 : Option Addr) (n cap n2 cap2 : Nat) (l : List Pg) (root : Int) (note : Bs) (gone : List Int) (hst : ∀ W, Only (POf P D vw vl vu) w W → Pgs W a n l ∧ Ins W a2 n2 gone)
    (hf : Fit l) (hln : ∀ x ∈ l, Mch x.links) (hg : Mch gone) (hr : root ≤ 9223372036854775807) (hnt : note.length ≤ 281474976710656) (ha : 0 ≤ d.acts ∧ d.acts ≤ 99999999999999) (hn : n ≤ 1000000) (hn2 : n2 ≤ 1000000000) :
    Calls Tryz.prog 51 #[ptr P, .slice a n cap, I root, S note, .slice a2 n2 cap2] w fun e w' => e = .returned (I (cmr d p l root note gone).1) ∧ PTo P D (cmr d p l root note gone).2.1 (cmr d p l root note gone).2.2 vw vl vu w w' := by
  have HR := hide (cmr_eq d p l root note gone)
  generalize cmr d p l root note gone = R at *
  obtain ⟨hp0, hi0⟩ := hst w (Only.refl _ _)
  have hln0 : l.length = n := hp0.1.symm
  have hlg0 : gone.length = n2 := hi0.1.symm
  have HLN := hide hln0
  have HLG := hide hlg0
  have H0 := hide (isNote_any note w)
  have H1 := hide (numbersOf_any a n cap l w hp0 (by omega))
  have X1 := hide (fun W (q : Below w.heap.size w W) => allMayBe_any a n cap l W (hst W (Only.of_below q)).1 hf (by omega))
  have X2 := hide (fun W q1 c1 (q : Ins W q1 n (l.map Pg.number)) => rises_any q1 n c1 (l.map Pg.number) W q (by omega))
  have X3 := hide (fun W (q : Below w.heap.size w W) => rises_any a2 n2 cap2 gone W (hst W (Only.of_below q)).2 (by omega))
  have HD := hide h
  have HP := hide hp
  have HST := hide hst
  have HF := hide hf
  have HK := hide (And.intro hln (And.intro hg (And.intro hr (And.intro hnt (And.intro ha (And.intro hn hn2))))))
  clear h hp hst hf hln hg hr hnt ha hn hn2 hp0 hi0 hln0 hlg0
  generalize hnums : l.map Pg.number = nums at *
  have HNM := hide hnums
  clear hnums
  by_cases h16 : note.length = 16
  · rw [show decide (note.length = 16) = true by simp [h16]] at H0
    have hi16 : ((note.length : Nat) : Int) = 16 := by omega
    have H16 := hide h16
    rw [if_neg (by simp [h16])] at HR
    clear h16
    go_enter Tryz.func51, Tryz.ntmps51
    go_wp2_with fail
    refine (unhide H0).mono ?_
    rintro e w0 ⟨rfl, hw0⟩
    rw [hw0]
    clear hw0 w0 H0
    go_wp2_with fail
    refine (unhide H1).mono ?_
    rintro e w1 ⟨V1, rfl, r1, n1, b1⟩
    have hl1 : nums.length = n := by rw [← unhide HNM, List.length_map]; exact unhide HLN
    rw [← hl1] at r1
    obtain ⟨q1, c1, hV1, i1, o1⟩ := Ins.of r1
    rw [hl1] at hV1 i1
    subst hV1
    have HI1 := hide i1
    have HN1 := hide (fun g o (e : q1 = some ⟨g, o, none⟩) => n1 g (o1 g o e))
    have HB1 := hide b1
    have HL1 := hide hl1
    clear r1 n1 b1 i1 o1 hl1 H1
    cases hb1 : l.all Pg.fresh
    · rw [hb1] at X1 HR
      rw [if_pos (by simp)] at HR
      clear hb1
      go_wp2_with fail
      refine (unhide X1 _ (unhide HB1)).mono ?_
      rintro e w2 ⟨rfl, b2⟩
      have HB2 := hide ((unhide HB1).trans (b2.mono (unhide HB1).size))
      clear b2
      go_wp2
      go_ret
      rw [unhide HR]
      exact ⟨rfl, PTo.same ((unhide HD).below (unhide HB2)) (Only.of_below (unhide HB2))⟩
    · rw [hb1] at X1 HR
      have HAF := hide hb1
      clear hb1
      cases hb2 : rsg nums
      · rw [hb2] at X2 HR
        rw [if_pos (by simp)] at HR
        clear hb2
        go_wp2_with fail
        refine (unhide X1 _ (unhide HB1)).mono ?_
        rintro e w2 ⟨rfl, b2⟩
        have HB2 := hide ((unhide HB1).trans (b2.mono (unhide HB1).size))
        have HI2 := hide ((unhide HI1).below b2)
        clear b2
        go_wp2_with fail
        refine (unhide X2 _ q1 c1 (unhide HI2)).mono ?_
        rintro e w3 ⟨rfl, b3⟩
        have HB3 := hide ((unhide HB2).trans (b3.mono (unhide HB2).size))
        clear b3
        go_wp2
        go_ret
        rw [unhide HR]
        exact ⟨rfl, PTo.same ((unhide HD).below (unhide HB3)) (Only.of_below (unhide HB3))⟩
      · rw [hb2] at X2 HR
        clear hb2
        go_wp2_with fail
        refine (unhide X1 _ (unhide HB1)).mono ?_
        rintro e w2 ⟨rfl, b2⟩
        have HB2 := hide ((unhide HB1).trans (b2.mono (unhide HB1).size))
        have HI2 := hide ((unhide HI1).below b2)
        clear b2
        go_wp2_with fail
        refine (unhide X2 _ q1 c1 (unhide HI2)).mono ?_
        rintro e w3 ⟨rfl, b3⟩
        have HB3 := hide ((unhide HB2).trans (b3.mono (unhide HB2).size))
        have HI3 := hide ((unhide HI2).below b3)
        clear b3
        cases hb3 : rsg gone
        · rw [hb3] at X3 HR
          rw [if_pos (by simp)] at HR
          clear hb3
          go_wp2_with fail
          refine (unhide X3 _ (unhide HB3)).mono ?_
          rintro e w4 ⟨rfl, b4⟩
          have HB4 := hide ((unhide HB3).trans (b4.mono (unhide HB3).size))
          clear b4
          go_wp2
          go_ret
          rw [unhide HR]
          exact ⟨rfl, PTo.same ((unhide HD).below (unhide HB4)) (Only.of_below (unhide HB4))⟩
        · rw [hb3] at X3 HR
          rw [if_neg (by simp)] at HR
          clear hb3
          go_wp2_with fail
          refine (unhide X3 _ (unhide HB3)).mono ?_
          rintro e w4 ⟨rfl, b4⟩
          have HB4 := hide ((unhide HB3).trans (b4.mono (unhide HB3).size))
          have HI4 := hide ((unhide HI3).below b4)
          clear b4 HB1 HB2 HB3 HI1 HI2 HI3 X1 X2 X3
          have H4 := hide (ask_any ((unhide HD).below (unhide HB4)))
          go_wp2_with fail
          refine (unhide H4).mono ?_
          rintro e w5 ⟨rfl, p5, o5⟩
          have on5 : Only (POf P D vw vl vu) w w5 := (Only.of_below (unhide HB4)).trans o5 (fun k _ q => .inl q)
          have i5 := (unhide HI4).only o5 (fun g o e => by have := unhide HN1 g o e; have := (unhide HD).lt; omega)
          have HP5 := hide p5
          have HO5 := hide on5
          have HI5 := hide i5
          clear p5 o5 on5 i5 H4 HI4
          have hpa : Prok d (p.ask d) := ⟨(unhide HP).may, (unhide HP).blocks, (unhide HP).len, (unhide HP).low0, (unhide HP).low1⟩
          have HPA := hide hpa
          clear hpa HP
          generalize p.ask d = pa at *
          generalize hav : askv d p = av at *
          clear hav
          by_cases h0 : av = 0
          · subst h0
            rw [if_neg (by simp)] at HR
            obtain ⟨z0, z1, z2, z3, z4, z5, z6, z7⟩ := (unhide HP5).c
            have hPl := (unhide HP5).lt
            have hfew := (unhide HP5).few
            obtain ⟨qu, cu, hvu⟩ := owns_form (unhide HP5).us
            have hus := (unhide HP5).us
            rw [hvu] at z5 hus
            have HUS := hide hus
            have HVU := hide hvu
            have H6 := hide (leastFree_any hus n (by omega))
            clear hus hvu
            have HFW := hide hfew
            clear hfew z0 z1 z2 z3 z4 z6 z7
            generalize hul : pa.use.length = ul at *
            have HUL := hide hul
            clear hul
            go_wp2_with fail
            refine (unhide H6).mono ?_
            rintro e w6 ⟨V2, rfl, r2, n2', b6⟩
            obtain ⟨q2, c2, hV2, i2, o2⟩ := Ins.of r2
            have hle : ((sel pa.use frb).take n).length ≤ n := by rw [List.length_take]; omega
            have H7 := hide (equal_any q1 q2 n ((sel pa.use frb).take n).length c1 c2 nums ((sel pa.use frb).take n) w6 ((unhide HI5).below b6) i2 (by have := unhide HK; omega) (by have := unhide HK; omega))
            have HP6 := hide ((unhide HP5).below b6)
            have HI6 := hide ((unhide HI5).below b6)
            have HO6 := hide ((unhide HO5).trans (Only.of_below (P := POf P D vw vl vu) b6) (fun _ _ q => q))
            subst hV2
            clear r2 n2' b6 i2 o2 hle H6 z5 HI5 HP5 HO5
            rw [unhide HLN] at HR
            generalize hs2 : (sel pa.use frb).take n = S2 at *
            have HS2 := hide hs2
            clear hs2
            generalize S2.length = s2l at *
            have X7 := hide (fun W vw' vu' (q : PD P D d pa vw' vl vu' W) (i : Ins W a2 n2 gone) => reachesAll_any q a2 n2 cap2 gone i (unhide HK).2.1 (by have := unhide HK; omega))
            cases hq : decide (nums = S2)
            · rw [hq] at H7 HR
              rw [if_pos (by simp)] at HR
              clear hq
              go_wp2_with fail
              refine (unhide H7).mono ?_
              rintro e w7 ⟨rfl, b7⟩
              have HP7 := hide ((unhide HP6).below b7)
              have HO7 := hide ((unhide HO6).trans (Only.of_below (P := POf P D vw vl vu) b7) (fun _ _ q => q))
              clear b7
              go_wp2
              go_ret
              rw [unhide HR]
              exact ⟨rfl, PTo.same (unhide HP7) (unhide HO7)⟩
            · have HQ := hide (of_decide_eq_true hq)
              rw [hq] at H7 HR
              clear hq
              go_wp2_with fail
              refine (unhide H7).mono ?_
              rintro e w7 ⟨rfl, b7⟩
              have hP7 := (unhide HP6).below b7
              have hO7 := (unhide HO6).trans (Only.of_below (P := POf P D vw vl vu) b7) (fun _ _ q => q)
              have HP7 := hide hP7
              have HO7 := hide hO7
              have HI7 := hide ((unhide HI6).below b7)
              have H8 := hide (unhide X7 w7 vw vu hP7 (unhide HST w7 hO7).2)
              clear b7 hP7 hO7 HP6 HO6 HI6 H7 X7
              cases hga : gone.all (hasv pa.use · 1)
              · rw [hga] at H8 HR
                rw [if_pos (by simp)] at HR
                clear hga
                go_wp2_with fail
                refine (unhide H8).mono ?_
                rintro e w8 ⟨rfl, hw8⟩
                rw [hw8]
                clear hw8 w8
                go_wp2
                go_ret
                rw [unhide HR]
                exact ⟨rfl, PTo.same (unhide HP7) (unhide HO7)⟩
              · have HGA := hide hga
                rw [hga] at H8 HR
                rw [if_neg (by simp)] at HR
                clear hga
                obtain ⟨z0, z1, z2, z3, z4, z5, z6, z7⟩ := (unhide HP7).c
                have hPl := (unhide HP7).lt
                have hus := (unhide HP7).us
                have hvu := unhide HVU
                rw [hvu] at z5 hus
                have hpos : 0 < pa.use.length := by
                  have h1 := (unhide HPA).may
                  have h2 := (unhide HPA).blocks
                  have h3 := (unhide HPA).len
                  simp only [Hd.may, Bool.and_eq_true, decide_eq_true_eq] at h1
                  omega
                have hul := unhide HUL
                have hnm := unhide HNM
                have hln := unhide HLN
                have hlg := unhide HLG
                have hsel : l.map Pg.number = (sel pa.use frb).take l.length := by rw [hnm, hln, unhide HS2]; exact unhide HQ
                have HSEL := hide hsel
                have hin : ∀ k, k < n → 0 ≤ nums.getD k 0 ∧ nums.getD k 0 < pa.use.length := fun k hk => by rw [← hnm]; exact num_in hsel k (by omega)
                have hgi : ∀ k, k < n2 → 0 ≤ gone.getD k 0 ∧ gone.getD k 0 < pa.use.length := fun k hk => gone_in (unhide HGA) k (by omega)
                have H9 := hide (turned_any (u := pa.use) (by rw [← hul] at hus; exact hus) hpos (by have := unhide HFW; omega) q1 a2 n n2 c1 cap2 nums gone (unhide HI7) (unhide HST w7 (unhide HO7)).2 hin hgi (by have := unhide HK; omega) (by have := unhide HK; omega))
                rw [hul] at H9
                clear hus hvu hpos hul hnm hln hlg hsel hin hgi z0 z1 z2 z3 z4 z6 z7
                go_wp2_with fail
                refine (unhide H8).mono ?_
                rintro e w8 ⟨rfl, hw8⟩
                rw [hw8]
                clear hw8 w8 H8
                go_wp2_with fail
                refine (unhide H9).mono ?_
                rintro e w9 ⟨V9, rfl, u9, n9, b9⟩
                have hP9 := (unhide HP7).below b9
                have hO9 := (unhide HO7).trans (Only.of_below (P := POf P D vw vl vu) b9) (fun _ _ q => q)
                have HP9 := hide hP9
                have HO9 := hide hO9
                have HN9 := hide (fun k hk => Nat.le_trans (unhide HO7).size (n9 k hk))
                have HU9 := hide u9
                obtain ⟨q9, c9, hv9⟩ := owns_form u9
                have H10 := hide (closed_any u9 a n cap l (unhide HST w9 hO9).1 root (unhide HK).2.2.1 (fun x hx => ⟨(unhide HK).1 x hx, ((unhide HF) x hx).1⟩) (by have := unhide HK; omega))
                subst hv9
                clear u9 n9 b9 hP9 hO9 HP7 HO7 H9 z5
                have hal : (after pa.use nums gone).length = pa.use.length := after_len _ _ _
                have HAL := hide hal
                clear hal
                generalize hua : after pa.use nums gone = ua at *
                have HUA := hide hua
                clear hua
                generalize hual : ua.length = ual at *
                have HUAL := hide hual
                clear hual
                cases hcl : clo ua l root
                · rw [hcl] at H10 HR
                  rw [if_pos rfl] at HR
                  clear hcl
                  go_wp2_with fail
                  refine (unhide H10).mono ?_
                  rintro e w10 ⟨rfl, b10⟩
                  have HP10 := hide ((unhide HP9).below b10)
                  have HO10 := hide ((unhide HO9).trans (Only.of_below (P := POf P D vw vl vu) b10) (fun _ _ q => q))
                  clear b10
                  go_wp2
                  go_ret
                  rw [unhide HR]
                  exact ⟨rfl, PTo.same (unhide HP10) (unhide HO10)⟩
                · have HCL := hide hcl
                  rw [hcl] at H10 HR
                  rw [if_neg (by simp)] at HR
                  clear hcl
                  go_wp2_with fail
                  refine (unhide H10).mono ?_
                  rintro e w10 ⟨rfl, b10⟩
                  have HP10 := hide ((unhide HP9).below b10)
                  have HO10 := hide ((unhide HO9).trans (Only.of_below (P := POf P D vw vl vu) b10) (fun _ _ q => q))
                  have HU10 := hide (owns_below (unhide HU9) b10)
                  clear b10 HP9 HO9 HU9 H10
                  obtain ⟨z0, z1, z2, z3, z4, z5, z6, z7⟩ := (unhide HP10).c
                  have hPl := (unhide HP10).lt
                  clear z0 z2 z3 z4 z5 z6 z7
                  by_cases hgm : pa.h.gen = 4611686018427387904
                  · rw [if_pos hgm] at HR
                    rw [hgm] at z1
                    clear hgm
                    go_wp2
                    go_ret
                    rw [unhide HR]
                    exact ⟨rfl, PTo.same (unhide HP10) (unhide HO10)⟩
                  · rw [if_neg hgm] at HR
                    have hgm2 : (pa.h.gen == 4611686018427387904) = false := by rw [beq_eq_false_iff_ne]; exact hgm
                    have hmay : (nxh pa root note).may = true := nxh_may (unhide HPA) (unhide H16) (unhide HSEL) (by rw [unhide HNM, unhide HUA]; exact unhide HCL) hgm
                    have HMAY := hide hmay
                    have hgb : 1 ≤ pa.h.gen ∧ pa.h.gen ≤ 4611686018427387904 := by
                      have h1 := (unhide HPA).may
                      simp only [Hd.may, isGn, Bool.and_eq_true, decide_eq_true_eq] at h1
                      omega
                    have HGB := hide hgb
                    clear hgm hmay hgb
                    go_upto_region 16 with fail
                    refine rcm16 P pa.h.gen root pa.h.blocks note (by kernel_rfl) (by kernel_rfl) (by kernel_rfl) _ _ (by show 87 ≤ Array.size _; simp) rfl rfl rfl (Mk1 w10 123 15 16 #[I 0, I 0, I 0, .string ⟨#[]⟩] #[I (pa.h.gen + 1), I root, I pa.h.blocks, S note]) ⟨0, Mk1.start _ _ _ _ _ _ _⟩ ?_ ?_ ?_ ?_ ?_ ?_ ?_ ?_ ?_
                    · intro i hi c L W hW
                      simp only [List.mem_cons, List.not_mem_nil, or_false, not_or] at hi
                      exact hW.pure hi.2.1 hi.2.2
                    · intro c L W hW _ _
                      exact s_ld Tryz.isAgg3 (cell_of_row _ _ 1 _ 172 (0, 0) ((hW.bel.block _ (unhide HP10).lt).trans (unhide HP10).blk))
                    · intro W
                      have hb := unhide HGB
                      have q : IntKind.i64.wrap (pa.h.gen + 1) = pa.h.gen + 1 := by rw [IntKind.wrap_i64]; omega
                      simp [go_sem, eqGuard, q]
                    · intro c L W hW _ _
                      exact s_ld Tryz.isAgg3 (cell_of_row _ _ 3 _ 172 (0, 0) ((hW.bel.block _ (unhide HP10).lt).trans (unhide HP10).blk))
                    · intro c L W hW _ _
                      refine (clone_any note W (unhide HK).2.2.2.1).mono ?_
                      rintro e w' ⟨rfl, b⟩
                      exact ⟨c, fun _ _ => rfl, rfl, hW.call b (by decide) (by decide)⟩
                    · intro W
                      simp [go_sem]
                    · intro c L W hW hL
                      refine ⟨W.heap.size, _, fun j hj => ?_, s_al Tryz.zeroValue123, hW.alloc hL (by decide)⟩
                      unfold vrcm16
                      split <;> first | rfl | (rw [hL] at hj; cases hj)
                    · intro c L W hW hL _ h15
                      exact ⟨_, hW.runs h15 hL Tryz.sizeOf123 _ rfl rfl rfl (by simp [Value.oneCell']), hW.fill h15 (by decide)⟩
                    intro c L W11 hall hW
                    obtain ⟨hc0, hc1⟩ := hW.done (hall 15 (by omega)) (hall 16 (by omega))
                    have b11 := hW.bel
                    have hP11 := (unhide HP10).below b11
                    have hO11 := (unhide HO10).trans (Only.of_below (P := POf P D vw vl vu) b11) (fun _ _ q => q)
                    have hU11 : Uls W11 (.slice q9 ual c9) ua := by
                      have q := owns_below (unhide HU10) b11
                      rw [← unhide HUAL] at q ⊢
                      exact q
                    obtain ⟨e0, e1, e2, e3⟩ := box4 hc1 (Below.refl _ _) (lt_of_row hc1)
                    have hul : ua.length = d.last.length := by rw [unhide HUAL, unhide HAL]; exact (unhide HPA).len
                    have HC := hide (turn_any hP11 a n cap l (nxh pa root note) (.slice q9 ual c9) ua hU11 hul (unhide HMAY) (fun W o => (unhide HST W (hO11.trans o (fun _ _ q => q))).1) (fun x hx => List.all_eq_true.1 (unhide HAF) x hx) (by have := unhide HK; omega) (by have := unhide HK; omega))
                    have HCC := hide (show hda (nxh pa root note) = .agg #[I (pa.h.gen + 1), I root, I pa.h.blocks, S note] from rfl)
                    rw [unhide HCC] at HC
                    have HO11 := hide hO11
                    clear hc0 hc1 b11 hP11 hO11 hU11 hul hW hall z1 hgm2
                    have HTT := hide (fun W (q : TrnTo P D d pa vw vl vu (.slice q9 ual c9) ua (nxh pa root note) l W11 W) => q)
                    generalize hTv : trv d l (nxh pa root note) = TV at *
                    have HTV := hide hTv
                    clear hTv
                    generalize hTp : TrnTo P D d pa vw vl vu (.slice q9 ual c9) ua (nxh pa root note) l W11 = TP at *
                    have HTP := hide hTp
                    clear hTp
                    simp only [Act.put, List.setIfInBounds_toArray, List.set_cons_succ, List.set_cons_zero]
                    go_wp2_with fail
                    refine (unhide HC).mono ?_
                    rintro e w12 ⟨rfl, t12⟩
                    have HT12 := hide t12
                    clear t12
                    go_wp2
                    go_ret
                    rw [unhide HR]
                    refine ⟨rfl, ?_⟩
                    have q := unhide HT12
                    rw [← unhide HTP] at q
                    obtain ⟨vw', vu', x1, x2, x3, x4⟩ := q
                    rw [unhide HTV] at x1
                    refine ⟨vw', vu', x1, (unhide HO11).trans x2 (fun _ _ q => q), fun k hk => (x3 k hk).imp id (fun q => Nat.le_trans (unhide HO11).size q), fun k hk => ?_⟩
                    rcases x4 with rfl | rfl
                    · exact .inl hk
                    · exact .inr (unhide HN9 k hk)
          · have hne : (av != 0) = true := by simpa using h0
            rw [if_pos h0] at HR
            clear h0
            go_wp2
            go_ret
            rw [unhide HR]
            exact ⟨rfl, PTo.same (unhide HP5) (unhide HO5)⟩
  · rw [show decide (note.length = 16) = false by simp [h16]] at H0
    rw [if_pos h16] at HR
    clear h16
    go_enter Tryz.func51, Tryz.ntmps51
    go_wp2_with fail
    refine (unhide H0).mono ?_
    rintro e w0 ⟨rfl, hw0⟩
    rw [hw0]
    clear hw0 w0 H0
    go_wp2
    go_ret
    rw [unhide HR]
    exact ⟨rfl, PTo.same (unhide HD) (Only.refl _ _)⟩
end Go.Proofs.YtjopnhhdemfniaaGreatDoor
