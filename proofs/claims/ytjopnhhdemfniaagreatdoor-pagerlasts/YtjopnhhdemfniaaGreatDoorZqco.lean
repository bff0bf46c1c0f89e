import Derived.Test.YtjopnhhdemfniaaGreatDoorZqcl
import Derived.Test.YtjopnhhdemfniaaGreatDoorZrgqf
import Derived.Deep.CutRange
import Derived.Deep.CutBlock
/- The lives that a script has, in memory. -/
namespace Go.Proofs.YtjopnhhdemfniaaGreatDoor
open Go.RowKit
set_option maxHeartbeats 8000000
set_option maxRecDepth 8000
structure Lif where
  T : List (Int × Int)
  arm : Int
  K : List Int
def noLif : Lif := ⟨[], 0, []⟩
theorem Tls.below {w w' : World} {a : Option Addr} {n : Nat} {T : List (Int × Int)} (h : Tls w a n T) (b : Below w.heap.size w w') : Tls w' a n T := by
  refine ⟨h.1, fun hn => ?_⟩
  obtain ⟨p, o, e, hc⟩ := h.2 hn
  exact ⟨p, o, e, fun j hj => ⟨(b.cell (by exact blk_lt (hc j hj).1)).trans (hc j hj).1, (b.cell (by exact blk_lt (hc j hj).2)).trans (hc j hj).2⟩⟩
structure LifAt (w : World) (g o j : Nat) (x : Lif) (ts : Option Addr) (cT : Nat) (ka : Option Addr) (kc : Nat) : Prop where
  c0 : w.cell? ⟨g, o + j * 3, none⟩ = some (.slice ts x.T.length cT)
  c1 : w.cell? ⟨g, o + j * 3 + 1, none⟩ = some (I x.arm)
  c2 : w.cell? ⟨g, o + j * 3 + 2, none⟩ = some (.slice ka x.K.length kc)
  tl : Tls w ts x.T.length x.T
  kl : Ins w ka x.K.length x.K
theorem LifAt.below {w w' : World} {g o j : Nat} {x : Lif} {ts : Option Addr} {cT : Nat} {ka : Option Addr} {kc : Nat} (h : LifAt w g o j x ts cT ka kc) (b : Below w.heap.size w w') : LifAt w' g o j x ts cT ka kc :=
  ⟨(b.cell (by exact blk_lt h.c0)).trans h.c0, (b.cell (by exact blk_lt h.c1)).trans h.c1, (b.cell (by exact blk_lt h.c2)).trans h.c2, h.tl.below b, h.kl.below b⟩
def Als (w : World) (a : Option Addr) (n : Nat) (LL : List Lif) : Prop :=
  n = LL.length ∧ (0 < n → ∃ g o, a = some ⟨g, o, none⟩ ∧ ∀ j, j < n → ∃ ts cT ka kc, LifAt w g o j (LL.getD j noLif) ts cT ka kc)
theorem Als.at {w : World} {a : Option Addr} {n : Nat} {LL : List Lif} (h : Als w a n LL) {j : Nat} (hj : j < n) : ∃ g o ts cT ka kc, a = some ⟨g, o, none⟩ ∧ g < w.heap.size ∧ LifAt w g o j (LL.getD j noLif) ts cT ka kc := by
  obtain ⟨g, o, e, hc⟩ := h.2 (by omega)
  obtain ⟨ts, cT, ka, kc, q⟩ := hc j hj
  exact ⟨g, o, ts, cT, ka, kc, e, blk_lt q.c0, q⟩
theorem s_x70 (g o n cap k : Nat) (hk : k < n) {w : World} : (Instr.indexAt 70 (.slice (some ⟨g, o, none⟩) n cap) (.int .i64 (k : Int))).run Tryz.prog w = .ok (.pointer (some ⟨g, o + k * 3, none⟩)) w := by
  have h1 : (k : Int) < (n : Int) := by omega
  have u := Tryz.underlying70
  have z := Tryz.sizeOf73
  simp [go_sem, u, z, h1]
/-- How much a script weighs: what each round of that adds. -/
theorem most_step {mo kn tn : Int} (h0 : 0 ≤ mo) (h1 : mo ≤ 2147483647) (hk : 0 ≤ kn) (ht : 0 ≤ tn) :
    let v4 := (if (2147483647 : Int) < tn then 2147483647 else tn)
    let v2 := (if (2147483647 : Int) < kn then 2147483647 else kn)
    0 ≤ addv (addv mo 100000) (addv (8 * v2) (5000 * v4)) ∧ addv (addv mo 100000) (addv (8 * v2) (5000 * v4)) ≤ 2147483648 ∧ (addv (addv mo 100000) (addv (8 * v2) (5000 * v4)) ≤ 2147483647 → mo + 100000 ≤ addv (addv mo 100000) (addv (8 * v2) (5000 * v4)) ∧ tn ≤ 429496) := by
  intro v4 v2
  have a1 : 0 ≤ v2 ∧ v2 ≤ 2147483647 := by show 0 ≤ (if (2147483647 : Int) < kn then 2147483647 else kn) ∧ (if (2147483647 : Int) < kn then 2147483647 else kn) ≤ 2147483647; split <;> omega
  have a2 : 0 ≤ v4 ∧ v4 ≤ 2147483647 ∧ (v4 < 2147483647 → v4 = tn) := by show 0 ≤ (if (2147483647 : Int) < tn then 2147483647 else tn) ∧ (if (2147483647 : Int) < tn then 2147483647 else tn) ≤ 2147483647 ∧ ((if (2147483647 : Int) < tn then 2147483647 else tn) < 2147483647 → (if (2147483647 : Int) < tn then 2147483647 else tn) = tn); split <;> omega
  generalize v4 = y at *
  generalize v2 = z at *
  unfold addv
  by_cases c1 : 2147483647 - mo < 100000
  · simp only [if_pos c1]
    by_cases c2 : 2147483647 - 8 * z < 5000 * y
    · simp only [if_pos c2]; split <;> omega
    · simp only [if_neg c2]; split <;> omega
  · simp only [if_neg c1]
    by_cases c2 : 2147483647 - 8 * z < 5000 * y
    · simp only [if_pos c2]; split <;> omega
    · simp only [if_neg c2]; split <;> omega
end Go.Proofs.YtjopnhhdemfniaaGreatDoor
/- A life's answer laid into two boxes. -/
namespace Go.Proofs.YtjopnhhdemfniaaGreatDoor
open Go.RowKit
set_option maxHeartbeats 8000000
set_option maxRecDepth 8000
abbrev C5 := Value × Value × Value × Nat × Nat
/-- The boxes that are there so far. -/
def BP (cb : C5) (L : Nat → Bool) (k : Nat) : Prop := (L 13 = true ∧ k = cb.2.2.2.1) ∨ (L 14 = true ∧ k = cb.2.2.2.2)
/-- What a life gave, and the world now. -/
structure P41 (m X Y P D : Nat) (vl vw vu : Value) (w0 : World) (g a : Int) (nT : Nat) (cb : C5) (L : Nat → Bool) (g' r' : Int) (nt' : Bs) (Lp' : List Pv) (q' : Option Addr) (c' : Nat) (gu ru : Int) (ntu : Bs) (Lu : List Pv) (qu : Option Addr) (cu : Nat) (d' : Ds) (p' : Pr) (vw' vu' : Value) (W : World) : Prop where
  e1 : cb.1 = .agg #[I g', I r', S nt', .slice q' Lp'.length c']
  e2 : cb.2.1 = .agg #[I gu, I ru, S ntu, .slice qu Lu.length cu]
  e3 : cb.2.2.1 = .bool true
  pd : PD P D d' p' vw' vl vu' W
  on : Only (POf P D vw vl vu) w0 W
  po : ∀ k, POf P D vw' vl vu' k → POf P D vw vl vu k ∨ w0.heap.size ≤ k
  nb : ∀ k, BP cb L k → ¬ POf P D vw' vl vu' k
  s1 : Frm (fun k => FZ P D vw' vl vu' (fun k => k = X ∨ k = Y) k ∨ BP cb L k) W (fun W' => Sps W' q' Lp')
  s2 : Frm (fun k => FZ P D vw' vl vu' (fun k => k = X ∨ k = Y) k ∨ BP cb L k) W (fun W' => Sps W' qu Lu)
  gb : g' ≤ g + nT
  ab : a ≤ d'.acts ∧ d'.acts ≤ a + 10 * nT
  n1 : nt'.length = 16
  n2 : ntu.length = 16
  ou : ((gu = g' ∧ ru = r' ∧ ntu = nt' ∧ Lu = Lp' ∧ qu = q' ∧ cu = c') ∧ ∀ st, Std m g' r' nt' (Lp'.map (·.1)) (crs d'.last d'.ws st d'.ws.length)) ∨ (gu = g' + 1 ∧ ∀ st, Std m g' r' nt' (Lp'.map (·.1)) (crs d'.last d'.ws st d'.ws.length) ∨ Std m gu ru ntu (Lu.map (·.1)) (crs d'.last d'.ws st d'.ws.length))
structure W41 (m X Y P D : Nat) (vl vw vu : Value) (w0 : World) (g a : Int) (nT : Nat) (cb : C5) (L : Nat → Bool) (W : World) : Prop where
  pre : L 8 = false → Below w0.heap.size w0 W
  post : L 8 = true → ∃ g' r' nt' Lp' q' c' gu ru ntu Lu qu cu d' p' vw' vu', P41 m X Y P D vl vw vu w0 g a nT cb L g' r' nt' Lp' q' c' gu ru ntu Lu qu cu d' p' vw' vu' W
  b1 : L 13 = true → w0.heap.size ≤ cb.2.2.2.1 ∧ ∃ cs, W.heap[cb.2.2.2.1]? = some (.cells cs 83 (0, 0)) ∧ cs.size = 4 ∧ (L 15 = true → cb.1 = .agg cs)
  b2 : L 14 = true → w0.heap.size ≤ cb.2.2.2.2 ∧ ∃ cs, W.heap[cb.2.2.2.2]? = some (.cells cs 83 (0, 0)) ∧ cs.size = 4 ∧ (L 16 = true → cb.2.1 = .agg cs)
  ne : L 13 = true → L 14 = true → cb.2.2.2.1 ≠ cb.2.2.2.2
  o1 : L 15 = true → L 8 = true ∧ L 13 = true
  o2 : L 16 = true → L 8 = true ∧ L 14 = true
  dp : ∀ i, (i = 9 ∨ i = 10 ∨ i = 11 ∨ i = 12 ∨ i = 17) → L i = true → L 8 = true
  xy : ∀ k, k = X ∨ k = Y → k < w0.heap.size
section
variable {m X Y P D : Nat} {vl vw vu : Value} {w0 : World} {g a : Int} {nT : Nat} {cb : C5} {L : Nat → Bool} {W : World}
theorem BP.same {cb : C5} {L L' : Nat → Bool} (h13 : L' 13 = L 13) (h14 : L' 14 = L 14) : BP cb L' = BP cb L := by
  funext k
  unfold BP
  rw [h13, h14]
theorem W41.start (hxy : ∀ k, k = X ∨ k = Y → k < w0.heap.size) (cb : C5) : W41 m X Y P D vl vw vu w0 g a nT cb (fun _ => false) w0.drew :=
  ⟨fun _ => (Below.refl _ _).drew, (fun h => nomatch h), (fun h => nomatch h), (fun h => nomatch h), (fun h => nomatch h), (fun h => nomatch h), (fun h => nomatch h), (fun _ _ h => nomatch h), hxy⟩
theorem P41.same {g' r' : Int} {nt' : Bs} {Lp' : List Pv} {q' : Option Addr} {c' : Nat} {gu ru : Int} {ntu : Bs} {Lu : List Pv} {qu : Option Addr} {cu : Nat} {d' : Ds} {p' : Pr} {vw' vu' : Value} {L' : Nat → Bool} (h : P41 m X Y P D vl vw vu w0 g a nT cb L g' r' nt' Lp' q' c' gu ru ntu Lu qu cu d' p' vw' vu' W) (hb : BP cb L' = BP cb L) : P41 m X Y P D vl vw vu w0 g a nT cb L' g' r' nt' Lp' q' c' gu ru ntu Lu qu cu d' p' vw' vu' W :=
  ⟨h.e1, h.e2, h.e3, h.pd, h.on, h.po, by rw [hb]; exact h.nb, by rw [hb]; exact h.s1, by rw [hb]; exact h.s2, h.gb, h.ab, h.n1, h.n2, h.ou⟩
theorem W41.pass (h : W41 m X Y P D vl vw vu w0 g a nT cb L W) {i : Nat} (hi : i ≠ 8 ∧ i ≠ 13 ∧ i ≠ 14 ∧ i ≠ 15 ∧ i ≠ 16) (h4 : (i = 9 ∨ i = 10 ∨ i = 11 ∨ i = 12 ∨ i = 17) → L 8 = true) : W41 m X Y P D vl vw vu w0 g a nT cb (upd L i) W := by
  have u8 : upd L i 8 = L 8 := upd_ne (Ne.symm hi.1)
  have u13 : upd L i 13 = L 13 := upd_ne (Ne.symm hi.2.1)
  have u14 : upd L i 14 = L 14 := upd_ne (Ne.symm hi.2.2.1)
  have u15 : upd L i 15 = L 15 := upd_ne (Ne.symm hi.2.2.2.1)
  have u16 : upd L i 16 = L 16 := upd_ne (Ne.symm hi.2.2.2.2)
  refine ⟨by rw [u8]; exact h.pre, ?_, by rw [u13, u15]; exact h.b1, by rw [u14, u16]; exact h.b2, by rw [u13, u14]; exact h.ne, by rw [u15, u8, u13]; exact h.o1, by rw [u16, u8, u14]; exact h.o2, fun j hj hl => ?_, h.xy⟩
  · rw [u8]
    intro h8
    obtain ⟨g', r', nt', Lp', q', c', gu, ru, ntu, Lu, qu, cu, d', p', vw', vu', hp⟩ := h.post h8
    exact ⟨g', r', nt', Lp', q', c', gu, ru, ntu, Lu, qu, cu, d', p', vw', vu', hp.same (BP.same u13 u14)⟩
  · rw [u8]
    by_cases e : j = i
    · subst e; exact h4 hj
    · rw [upd_ne e] at hl; exact h.dp j hj hl
/-- What the call must be told of the boxes. -/
theorem W41.sx {last : List Bs} {f : Int} {p : Pr} (h : W41 m X Y P D vl vw vu w0 g a nT cb L W) (h8 : L 8 = false) (hpd : PD P D (Av last f a) p vw vl vu w0) (hx : ¬ POf P D vw vl vu X) (hy : ¬ POf P D vw vl vu Y) : ∀ k, ((k = X ∨ k = Y) ∨ BP cb L k) → k < W.heap.size ∧ ¬ POf P D vw vl vu k := by
  have b := h.pre h8
  intro k hk
  rcases hk with e | e
  · refine ⟨Nat.lt_of_lt_of_le (h.xy k e) b.size, ?_⟩
    rcases e with e | e
    · rw [e]; exact hx
    · rw [e]; exact hy
  · rcases e with ⟨e1, e2⟩ | ⟨e1, e2⟩
    · obtain ⟨q1, cs, q2, _⟩ := h.b1 e1
      rw [e2]
      exact ⟨lt_of_row q2, fun q => by have := hpd.old _ q; omega⟩
    · obtain ⟨q1, cs, q2, _⟩ := h.b2 e1
      rw [e2]
      exact ⟨lt_of_row q2, fun q => by have := hpd.old _ q; omega⟩
theorem W41.call (h : W41 m X Y P D vl vw vu w0 g a nT cb L W) (h8 : L 8 = false) (hsx : ∀ k, ((k = X ∨ k = Y) ∨ BP cb L k) → k < W.heap.size ∧ ¬ POf P D vw vl vu k) {W' : World} {g' r' : Int} {nt' : Bs} {Lp' : List Pv} {q' : Option Addr} {c' : Nat} {gu ru : Int} {ntu : Bs} {Lu : List Pv} {qu : Option Addr} {cu : Nat} {d' : Ds} {p' : Pr} {vw' vu' : Value}
    (ho : LvO m P D vl vw vu (fun k => (k = X ∨ k = Y) ∨ BP cb L k) W g a nT g' r' nt' Lp' q' c' gu ru ntu Lu qu cu d' p' vw' vu' W') : W41 m X Y P D vl vw vu w0 g a nT (.agg #[I g', I r', S nt', .slice q' Lp'.length c'], .agg #[I gu, I ru, S ntu, .slice qu Lu.length cu], .bool true, cb.2.2.2) (upd L 8) W' := by
  have b := h.pre h8
  have u13 : upd L 8 13 = L 13 := upd_ne (by decide)
  have u14 : upd L 8 14 = L 14 := upd_ne (by decide)
  have u15 : upd L 8 15 = L 15 := upd_ne (by decide)
  have u16 : upd L 8 16 = L 16 := upd_ne (by decide)
  have hbp : ∀ k, BP (.agg #[I g', I r', S nt', .slice q' Lp'.length c'], .agg #[I gu, I ru, S ntu, .slice qu Lu.length cu], .bool true, cb.2.2.2) (upd L 8) k ↔ BP cb L k := fun k => by
    unfold BP
    rw [u13, u14]
  have n15 : ¬ L 15 = true := fun q => by rw [(h.o1 q).1] at h8; cases h8
  have n16 : ¬ L 16 = true := fun q => by rw [(h.o2 q).1] at h8; cases h8
  refine ⟨fun q => (by rw [upd_self] at q; cases q), fun _ => ⟨g', r', nt', Lp', q', c', gu, ru, ntu, Lu, qu, cu, d', p', vw', vu', rfl, rfl, rfl, ho.pd, (Only.of_below b).trans ho.on (fun _ _ e => e), fun k e => (ho.po k e).imp id (fun q => Nat.le_trans b.size q), fun k hk e => ?_, ?_, ?_, ho.gb, ho.ab, ho.n1, ho.n2, ho.ou⟩, fun q => ?_, fun q => ?_, by rw [u13, u14]; exact h.ne, fun q => absurd (u15 ▸ q) n15, fun q => absurd (u16 ▸ q) n16, fun j hj hl => upd_self _ _, h.xy⟩
  · have hk' := hsx k (.inr ((hbp k).1 hk))
    rcases ho.po k e with q | q
    · exact hk'.2 q
    · omega
  · exact fun W2 o2 => ho.s1 W2 (o2.mono (fun k _ e => e.elim (fun e => e.elim .inl (fun e => .inr (.inl e))) (fun e => .inr (.inr ((hbp k).1 e)))))
  · exact fun W2 o2 => ho.s2 W2 (o2.mono (fun k _ e => e.elim (fun e => e.elim .inl (fun e => .inr (.inl e))) (fun e => .inr (.inr ((hbp k).1 e)))))
  · rw [u13] at q
    obtain ⟨q1, cs, q2, q3, q4⟩ := h.b1 q
    refine ⟨q1, cs, (ho.on.block _ (lt_of_row q2) (hsx _ (.inr (.inl ⟨q, rfl⟩))).2).trans q2, q3, fun q5 => absurd (u15 ▸ q5) n15⟩
  · rw [u14] at q
    obtain ⟨q1, cs, q2, q3, q4⟩ := h.b2 q
    refine ⟨q1, cs, (ho.on.block _ (lt_of_row q2) (hsx _ (.inr (.inr ⟨q, rfl⟩))).2).trans q2, q3, fun q5 => absurd (u16 ▸ q5) n16⟩
theorem W41.sz (h : W41 m X Y P D vl vw vu w0 g a nT cb L W) : w0.heap.size ≤ W.heap.size := by
  cases e : L 8 with
  | false => exact (h.pre e).size
  | true =>
    obtain ⟨g', r', nt', Lp', q', c', gu, ru, ntu, Lu, qu, cu, d', p', vw', vu', hp⟩ := h.post e
    exact hp.on.size
theorem P41.grow {g' r' : Int} {nt' : Bs} {Lp' : List Pv} {q' : Option Addr} {c' : Nat} {gu ru : Int} {ntu : Bs} {Lu : List Pv} {qu : Option Addr} {cu : Nat} {d' : Ds} {p' : Pr} {vw' vu' : Value} {L' : Nat → Bool} {cb' : C5} {W' : World} (h : P41 m X Y P D vl vw vu w0 g a nT cb L g' r' nt' Lp' q' c' gu ru ntu Lu qu cu d' p' vw' vu' W) (hc : cb'.1 = cb.1 ∧ cb'.2.1 = cb.2.1 ∧ cb'.2.2.1 = cb.2.2.1) (b : Below W.heap.size W W') (hb : ∀ k, BP cb' L' k → BP cb L k ∨ W.heap.size ≤ k) : P41 m X Y P D vl vw vu w0 g a nT cb' L' g' r' nt' Lp' q' c' gu ru ntu Lu qu cu d' p' vw' vu' W' :=
  ⟨hc.1.trans h.e1, hc.2.1.trans h.e2, hc.2.2.trans h.e3, h.pd.below b, h.on.trans (Only.of_below (P := fun _ => False) b) (fun _ _ e => e.elim), h.po, fun k hk e => (hb k hk).elim (fun q => h.nb k q e) (fun q => by have := h.pd.old k e; omega),
    h.s1.step (Only.of_below b) (fun k hk e => e.imp id (fun e => (hb k e).elim id (fun q => by omega))), h.s2.step (Only.of_below b) (fun k hk e => e.imp id (fun e => (hb k e).elim id (fun q => by omega))), h.gb, h.ab, h.n1, h.n2, h.ou⟩
theorem P41.put {g' r' : Int} {nt' : Bs} {Lp' : List Pv} {q' : Option Addr} {c' : Nat} {gu ru : Int} {ntu : Bs} {Lu : List Pv} {qu : Option Addr} {cu : Nat} {d' : Ds} {p' : Pr} {vw' vu' : Value} {L' : Nat → Bool} (h : P41 m X Y P D vl vw vu w0 g a nT cb L g' r' nt' Lp' q' c' gu ru ntu Lu qu cu d' p' vw' vu' W) (hb : BP cb L' = BP cb L) {z : Nat} (hz : BP cb L z) (hz0 : w0.heap.size ≤ z) (vs : Array Value) : P41 m X Y P D vl vw vu w0 g a nT cb L' g' r' nt' Lp' q' c' gu ru ntu Lu qu cu d' p' vw' vu' (W.setRow z vs) := by
  have o := setRow_Only W z vs
  refine ⟨h.e1, h.e2, h.e3, h.pd.only o (fun k e1 e2 => h.nb z hz (e2 ▸ e1)), h.on.trans o (fun k hk e => by omega), h.po, by rw [hb]; exact h.nb, ?_, ?_, h.gb, h.ab, h.n1, h.n2, h.ou⟩
  · rw [hb]; exact h.s1.step (o.mono (fun k _ e => .inr (e ▸ hz))) (fun _ _ e => e)
  · rw [hb]; exact h.s2.step (o.mono (fun k _ e => .inr (e ▸ hz))) (fun _ _ e => e)
theorem W41.al1 (h : W41 m X Y P D vl vw vu w0 g a nT cb L W) (h13 : L 13 = false) : W41 m X Y P D vl vw vu w0 g a nT (cb.1, cb.2.1, cb.2.2.1, W.heap.size, cb.2.2.2.2) (upd L 13) (W.alloc (.cells #[I 0, I 0, .string ⟨#[]⟩, .slice none 0 0] 83)) := by
  have b := (Below.refl W.heap.size W).alloc (Nat.le_refl _) (.cells #[I 0, I 0, .string ⟨#[]⟩, .slice none 0 0] 83)
  have u8 : upd L 13 8 = L 8 := upd_ne (by decide)
  have u14 : upd L 13 14 = L 14 := upd_ne (by decide)
  have u15 : upd L 13 15 = L 15 := upd_ne (by decide)
  have u16 : upd L 13 16 = L 16 := upd_ne (by decide)
  have n15 : ¬ L 15 = true := fun q => by rw [(h.o1 q).2] at h13; cases h13
  refine ⟨fun q => (h.pre (u8 ▸ q)).trans (b.mono (h.pre (u8 ▸ q)).size), fun q => ?_, fun _ => ⟨h.sz, _, heap_alloc_new _ _, rfl, fun q => absurd (u15 ▸ q) n15⟩, fun q => ?_, fun _ q => ?_, fun q => absurd (u15 ▸ q) n15, fun q => ?_, fun j hj hl => ?_, h.xy⟩
  · obtain ⟨g', r', nt', Lp', q', c', gu, ru, ntu, Lu, qu, cu, d', p', vw', vu', hp⟩ := h.post (u8 ▸ q)
    refine ⟨g', r', nt', Lp', q', c', gu, ru, ntu, Lu, qu, cu, d', p', vw', vu', hp.grow ⟨rfl, rfl, rfl⟩ b (fun k hk => ?_)⟩
    rcases hk with ⟨_, e⟩ | ⟨e1, e2⟩
    · exact .inr (by rw [e]; exact Nat.le_refl _)
    · exact .inl (.inr ⟨u14 ▸ e1, e2⟩)
  · obtain ⟨q1, cs, q2, q3, q4⟩ := h.b2 (u14 ▸ q)
    exact ⟨q1, cs, (b.block _ (lt_of_row q2)).trans q2, q3, fun q5 => q4 (u16 ▸ q5)⟩
  · obtain ⟨q1, cs, q2, _⟩ := h.b2 (u14 ▸ q)
    have := lt_of_row q2
    show W.heap.size ≠ cb.2.2.2.2
    omega
  · have := h.o2 (u16 ▸ q)
    exact ⟨u8.trans this.1, u14.trans this.2⟩
  · exact u8.trans (h.dp j hj (by rwa [upd_ne (by omega)] at hl))
theorem W41.al2 (h : W41 m X Y P D vl vw vu w0 g a nT cb L W) (h14 : L 14 = false) : W41 m X Y P D vl vw vu w0 g a nT (cb.1, cb.2.1, cb.2.2.1, cb.2.2.2.1, W.heap.size) (upd L 14) (W.alloc (.cells #[I 0, I 0, .string ⟨#[]⟩, .slice none 0 0] 83)) := by
  have b := (Below.refl W.heap.size W).alloc (Nat.le_refl _) (.cells #[I 0, I 0, .string ⟨#[]⟩, .slice none 0 0] 83)
  have u8 : upd L 14 8 = L 8 := upd_ne (by decide)
  have u13 : upd L 14 13 = L 13 := upd_ne (by decide)
  have u15 : upd L 14 15 = L 15 := upd_ne (by decide)
  have u16 : upd L 14 16 = L 16 := upd_ne (by decide)
  have n16 : ¬ L 16 = true := fun q => by rw [(h.o2 q).2] at h14; cases h14
  refine ⟨fun q => (h.pre (u8 ▸ q)).trans (b.mono (h.pre (u8 ▸ q)).size), fun q => ?_, fun q => ?_, fun _ => ⟨h.sz, _, heap_alloc_new _ _, rfl, fun q => absurd (u16 ▸ q) n16⟩, fun q _ => ?_, fun q => ?_, fun q => absurd (u16 ▸ q) n16, fun j hj hl => ?_, h.xy⟩
  · obtain ⟨g', r', nt', Lp', q', c', gu, ru, ntu, Lu, qu, cu, d', p', vw', vu', hp⟩ := h.post (u8 ▸ q)
    refine ⟨g', r', nt', Lp', q', c', gu, ru, ntu, Lu, qu, cu, d', p', vw', vu', hp.grow ⟨rfl, rfl, rfl⟩ b (fun k hk => ?_)⟩
    rcases hk with ⟨e1, e2⟩ | ⟨_, e⟩
    · exact .inl (.inl ⟨u13 ▸ e1, e2⟩)
    · exact .inr (by rw [e]; exact Nat.le_refl _)
  · obtain ⟨q1, cs, q2, q3, q4⟩ := h.b1 (u13 ▸ q)
    exact ⟨q1, cs, (b.block _ (lt_of_row q2)).trans q2, q3, fun q5 => q4 (u15 ▸ q5)⟩
  · obtain ⟨q1, cs, q2, _⟩ := h.b1 (u13 ▸ q)
    have := lt_of_row q2
    show cb.2.2.2.1 ≠ W.heap.size
    omega
  · have := h.o1 (u15 ▸ q)
    exact ⟨u8.trans this.1, u13.trans this.2⟩
  · exact u8.trans (h.dp j hj (by rwa [upd_ne (by omega)] at hl))
theorem W41.st1 (h : W41 m X Y P D vl vw vu w0 g a nT cb L W) (h8 : L 8 = true) (h13 : L 13 = true) : ∃ W', (Instr.storeAt 83 (.pointer (some ⟨cb.2.2.2.1, 0, none⟩)) cb.1).run Tryz.prog W = .ok () W' ∧ W41 m X Y P D vl vw vu w0 g a nT cb (upd L 15) W' := by
  obtain ⟨g', r', nt', Lp', q', c', gu, ru, ntu, Lu, qu, cu, d', p', vw', vu', hp⟩ := h.post h8
  obtain ⟨q1, cs, q2, q3, q4⟩ := h.b1 h13
  have u8 : upd L 15 8 = L 8 := upd_ne (by decide)
  have u13 : upd L 15 13 = L 13 := upd_ne (by decide)
  have u14 : upd L 15 14 = L 14 := upd_ne (by decide)
  have u16 : upd L 15 16 = L 16 := upd_ne (by decide)
  have hst : (Instr.storeAt 83 (.pointer (some ⟨cb.2.2.2.1, 0, none⟩)) cb.1).run Tryz.prog W = .ok () (W.setRow cb.2.2.2.1 #[I g', I r', S nt', .slice q' Lp'.length c']) := by
    rw [hp.e1]
    exact st83 q2 q3
  refine ⟨_, hst, fun q => (by rw [u8, h8] at q; cases q), fun _ => ⟨g', r', nt', Lp', q', c', gu, ru, ntu, Lu, qu, cu, d', p', vw', vu', hp.put (BP.same u13 u14) (.inl ⟨h13, rfl⟩) q1 _⟩, fun _ => ⟨q1, _, setRow_row q2, rfl, fun _ => hp.e1⟩, fun q => ?_, by rw [u13, u14]; exact h.ne, fun _ => ⟨u8.trans h8, u13.trans h13⟩, by rw [u16, u8, u14]; exact h.o2, fun j hj hl => u8.trans h8, h.xy⟩
  obtain ⟨p1, cs2, p2, p3, p4⟩ := h.b2 (u14 ▸ q)
  exact ⟨p1, cs2, ((setRow_Only W _ _).block _ (lt_of_row p2) (Ne.symm (h.ne h13 (u14 ▸ q)))).trans p2, p3, fun q5 => p4 (u16 ▸ q5)⟩
theorem W41.st2 (h : W41 m X Y P D vl vw vu w0 g a nT cb L W) (h8 : L 8 = true) (h14 : L 14 = true) : ∃ W', (Instr.storeAt 83 (.pointer (some ⟨cb.2.2.2.2, 0, none⟩)) cb.2.1).run Tryz.prog W = .ok () W' ∧ W41 m X Y P D vl vw vu w0 g a nT cb (upd L 16) W' := by
  obtain ⟨g', r', nt', Lp', q', c', gu, ru, ntu, Lu, qu, cu, d', p', vw', vu', hp⟩ := h.post h8
  obtain ⟨q1, cs, q2, q3, q4⟩ := h.b2 h14
  have u8 : upd L 16 8 = L 8 := upd_ne (by decide)
  have u13 : upd L 16 13 = L 13 := upd_ne (by decide)
  have u14 : upd L 16 14 = L 14 := upd_ne (by decide)
  have u15 : upd L 16 15 = L 15 := upd_ne (by decide)
  have hst : (Instr.storeAt 83 (.pointer (some ⟨cb.2.2.2.2, 0, none⟩)) cb.2.1).run Tryz.prog W = .ok () (W.setRow cb.2.2.2.2 #[I gu, I ru, S ntu, .slice qu Lu.length cu]) := by
    rw [hp.e2]
    exact st83 q2 q3
  refine ⟨_, hst, fun q => (by rw [u8, h8] at q; cases q), fun _ => ⟨g', r', nt', Lp', q', c', gu, ru, ntu, Lu, qu, cu, d', p', vw', vu', hp.put (BP.same u13 u14) (.inr ⟨h14, rfl⟩) q1 _⟩, fun q => ?_, fun _ => ⟨q1, _, setRow_row q2, rfl, fun _ => hp.e2⟩, by rw [u13, u14]; exact h.ne, by rw [u15, u8, u13]; exact h.o1, fun _ => ⟨u8.trans h8, u14.trans h14⟩, fun j hj hl => u8.trans h8, h.xy⟩
  obtain ⟨p1, cs2, p2, p3, p4⟩ := h.b1 (u13 ▸ q)
  exact ⟨p1, cs2, ((setRow_Only W _ _).block _ (lt_of_row p2) (h.ne (u13 ▸ q) h14)).trans p2, p3, fun q5 => p4 (u15 ▸ q5)⟩
end
end Go.Proofs.YtjopnhhdemfniaaGreatDoor
/- The body of PagerLasts. -/
namespace Go.Proofs.YtjopnhhdemfniaaGreatDoor
open Go.RowKit
set_option maxHeartbeats 16000000
set_option maxRecDepth 8000
theorem s_min2 (T : TypeId) (a b : Int) {w : World} : (Builtin.min_ #[3, 3] T #[.int .i64 a, .int .i64 b]).run Tryz.prog w = .ok (.int .i64 (if b < a then b else a)) w := by
  simp [Builtin.min_, Builtin.min2]
/-- The store was laid. -/
def Laid (m D : Nat) (vl : Value) (n3 : Bs) (w : World) (W : World) : Prop := ∃ last f a vw, DAt D (Av last f a) vw vl W ∧ Ok (Av last f a) ∧ Std m 1 0 n3 [] last ∧ 0 ≤ f ∧ 0 ≤ a ∧ a ≤ 10 ∧ (∀ k, Of D vw vl k → w.heap.size ≤ k) ∧ Below w.heap.size w W
/-- At the head of each life. -/
structure Hv (m X Y D : Nat) (vl vw : Value) (g r f a : Int) (nt : Bs) (Lp : List Pv) (q : Option Addr) (c : Nat) (gu ru : Int) (ntu : Bs) (Lu : List Pv) (qu : Option Addr) (cu : Nat) (last : List Bs) (W : World) : Prop where
  dat : DAt D (Av last f a) vw vl W
  ok : Ok (Av last f a)
  bx : W.heap[X]? = some (.cells #[I g, I r, S nt, .slice q Lp.length c] 83 (0, 0))
  yb : W.heap[Y]? = some (.cells #[I gu, I ru, S ntu, .slice qu Lu.length cu] 83 (0, 0))
  nx : ¬ Of D vw vl X
  ny : ¬ Of D vw vl Y
  s1 : Frm (fun k => Of D vw vl k ∨ k = X ∨ k = Y) W (fun W' => Sps W' q Lp)
  s2 : Frm (fun k => Of D vw vl k ∨ k = X ∨ k = Y) W (fun W' => Sps W' qu Lu)
  n1 : nt.length = 16
  n2 : ntu.length = 16
  sd : Std m gu ru ntu (Lu.map (·.1)) last ∨ (gu ≠ g ∧ Std m g r nt (Lp.map (·.1)) last)
/-- A state that is mounted, and stands in its box. -/
structure Mt (m X Y P D : Nat) (vl vw vu : Value) (gs rs f a : Int) (nts : Bs) (Ls : List Pv) (qs : Option Addr) (cs : Nat) (last : List Bs) (w W : World) : Prop where
  sd : Std m gs rs nts (Ls.map (·.1)) last
  nl : nts.length = 16
  pd : PD P D (Av last f a) (mkp m gs rs nts (Ls.map (·.1))) vw vl vu W
  bx : W.heap[X]? = some (.cells #[I gs, I rs, S nts, .slice qs Ls.length cs] 83 (0, 0))
  yb : ∃ cy, W.heap[Y]? = some (.cells cy 83 (0, 0)) ∧ cy.size = 4
  nx : ¬ POf P D vw vl vu X
  ny : ¬ POf P D vw vl vu Y
  sp : Frm (FZ P D vw vl vu (fun k => k = X ∨ k = Y)) W (fun W' => Sps W' qs Ls)
  no : ∀ k, POf P D vw vl vu k → w.heap.size ≤ k
  be : Below w.heap.size w W
theorem Mt.move {m X Y P D : Nat} {vl vw vu : Value} {gs rs f a : Int} {nts : Bs} {Ls : List Pv} {qs : Option Addr} {cs : Nat} {last : List Bs} {w W W' : World} {f' : Int} {F : Nat → Prop} (h : Mt m X Y P D vl vw vu gs rs f a nts Ls qs cs last w W) (o : Only F W W') (hF : ∀ k, F k → POf P D vw vl vu k) (hp : PD P D (Av last f' a) (mkp m gs rs nts (Ls.map (·.1))) vw vl vu W') : Mt m X Y P D vl vw vu gs rs f' a nts Ls qs cs last w W' := by
  obtain ⟨cy, y1, y2⟩ := h.yb
  exact ⟨h.sd, h.nl, hp, (o.block X (lt_of_row h.bx) (fun e => h.nx (hF X e))).trans h.bx, ⟨cy, (o.block Y (lt_of_row y1) (fun e => h.ny (hF Y e))).trans y1, y2⟩, h.nx, h.ny, h.sp.only o (fun k e => .inl (hF k e)), h.no, o.below h.be h.be.size (fun k e => h.no k (hF k e))⟩
theorem mountS_any {m D : Nat} {g r f a : Int} {nt : Bs} {ps : List Pg} {last : List Bs} {vw vl : Value} {W : World} (h : DAt D (Av last f a) vw vl W) (ho : Ok (Av last f a)) (hs : Std m g r nt ps last) : Calls Tryz.prog 39 #[ptr D] W fun e w' => ∃ P vu, e = .returned (.tuple #[ptr P, I 0]) ∧ PD P D (Av last f a) (mkp m g r nt ps) vw vl vu w' ∧ W.heap.size ≤ P ∧ (∀ k, vu.ownBlock = some k → W.heap.size ≤ k) ∧ Below W.heap.size W w' := by
  have hc : hct (Av last f a) = (⟨g, r, m, nt⟩, true) := hct_of rfl rfl hs.dl hs.m8.1 hs.gn hs.hd hs.ot
  have hl : (Av last f a).last.length = m := hs.dl
  have key := mountT_any h ho rfl (by rw [hc]) ps (fun x hx => by
    obtain ⟨q1, q2, q3, q4, q5⟩ := hs.pg x hx
    rw [hc, hl]
    exact ⟨q1, q2, q3, q4, q5⟩) hs.nd hs.few (by rw [hc]; exact hs.tr)
  rw [hc, hl] at key
  exact key
theorem pagerLasts_any (blocks begins : Int) (la : Option Addr) (ln lc : Nat) (L0 : List Int) (sa : Option Addr) (n sc : Nat) (LL : List Lif) (w : World) (hL : Ins w la ln L0) (hA : Als w sa n LL) (hb : i64 blocks) (hbg : i64 begins) (hL0 : ∀ z ∈ L0, -9223372036854775808 ≤ z ∧ z ≤ 9223372036854775807) (hLL : ∀ x ∈ LL, i64 x.arm ∧ (∀ t ∈ x.T, (-9223372036854775808 ≤ t.1 ∧ t.1 ≤ 9223372036854775807) ∧ -9223372036854775808 ≤ t.2 ∧ t.2 ≤ 9223372036854775807) ∧ (∀ z ∈ x.K, -9223372036854775808 ≤ z ∧ z ≤ 9223372036854775807) ∧ x.T.length ≤ 9223372036854775807 ∧ x.K.length ≤ 9223372036854775807) (hln : ln ≤ 2147483647) (hn : n ≤ 9223372036854775807) :
    Calls Tryz.prog 7 #[I blocks, I begins, .slice la ln lc, .slice sa n sc] w fun e w' => e = .returned (.bool true) ∧ Below w.heap.size w w' := by
  have HL := hide hL
  have HAL := hide hA
  have HL0 := hide hL0
  have HLL := hide hLL
  have hAn := hA.1
  have HAN := hide hAn
  have HPK := hide (fun W => pick_any blocks 40 W (by omega) (by omega) hb.1 hb.2)
  have HPB := hide (fun W => pick_any begins 9 W (by omega) (by omega) hbg.1 hbg.2)
  have hp40 := pkv_lt blocks 40 (by omega)
  have hp9 := pkv_lt begins 9 (by omega)
  have HAW := hide (fun W => awake_any W)
  have HNT := hide (fun W => note9_any 3 W)
  clear hL hA hL0 hLL hAn hb hbg
  generalize hr6 : pkv blocks 40 = r0 at *
  generalize hb9 : pkv begins 9 = bg at *
  clear hr6 hb9
  obtain ⟨r, hr⟩ : ∃ r, r = r0 + 6 := ⟨_, rfl⟩
  have h6 : 6 ≤ r ∧ r ≤ 4094 := by omega
  have HZN := hide (fun W => z_new r h6 W)
  have hfr : Fr (r + 2) (Bz r zs zs) := ⟨bz_len _ _ _, bz_512 zs_len zs_len, by omega, phr_zs, phr_zs⟩
  have HFO := hide (fun (last : List Bs) (h : Fr (r + 2) last) (f a : Int) (hf : 0 ≤ f) => fmt_or h (nte 3) (nte_len 3) f a hf)
  have HFR := hide hfr
  have HNL := hide (nte_len 3)
  have e8 : (8 : Int) + (r0 : Int) = ((r + 2 : Nat) : Int) := by omega
  obtain ⟨m, hm⟩ : ∃ m, r + 2 = m := ⟨_, rfl⟩
  rw [hm] at HZN HFO HFR e8
  have hm8 : 8 ≤ m ∧ m ≤ 4096 := by omega
  generalize nte 3 = n3 at *
  have hmi : min (ln : Int) 2147483647 = (ln : Int) := by omega
  have h9 : ¬ (2147483647 : Int) < (ln : Int) := by omega
  have HAD := hide (add2_any 100000 (8 * (ln : Int)) w (by omega) (by omega) (by omega) (by omega))
  have hmo : 0 ≤ addv 100000 (8 * (ln : Int)) ∧ addv 100000 (8 * (ln : Int)) ≤ 2147483648 ∧ 100000 ≤ addv 100000 (8 * (ln : Int)) := by unfold addv; split <;> omega
  generalize addv 100000 (8 * (ln : Int)) = mo0 at *
  have HE8 := hide e8
  clear hr h6 hm hfr e8
  go_enter Tryz.func7, Tryz.ntmps7
  go_wp2_with (refine (unhide HAD).mono ?_; rintro e wa ⟨rfl, hwa⟩; rw [hwa]; clear hwa)
  clear hmi h9
  go_loopw [9, 10] (fun v i wr => ∃ (j : Nat) (mo : Int), j ≤ n ∧ i = .int .i64 j ∧ v = .int .i64 mo ∧ 0 ≤ mo ∧ mo ≤ 2147483648 ∧ (mo ≤ 2147483647 → 100000 * ((j : Int) + 1) ≤ mo ∧ ∀ i, i < j → (LL.getD i noLif).T.length ≤ 429496) ∧ Below w.heap.size w wr) (fun _ i _ => n - (Go.RowKit.intOf i).toNat)
  case atStart => exact ⟨0, mo0, by omega, rfl, rfl, by omega, by omega, fun _ => ⟨by omega, fun i hi => by omega⟩, Below.refl _ _⟩
  case round =>
    obtain ⟨j, mo, hj, rfl, rfl, h0, h1, hmo2, hbw⟩ := hrel
    by_cases hle : mo ≤ 2147483647
    · by_cases hlt : j < n
      · as_aux_lemma =>
          have hlt' : (j : Int) < (n : Int) := by omega
          obtain ⟨g, o, ts, cT, ka, kc, es, hgl, hat⟩ := (unhide HAL).at hlt
          subst es
          have hatw := hat.below hbw
          have hgl' := Nat.lt_of_lt_of_le hgl hbw.size
          have hbd := unhide HLL _ (getD_in LL noLif j (by have := unhide HAN; omega))
          have hms := most_step (mo := mo) (kn := ((LL.getD j noLif).K.length : Int)) (tn := ((LL.getD j noLif).T.length : Int)) h0 hle (by omega) (by omega)
          have HMS := hide hms
          have HMO := hide hmo2
          have HB := hide hbw
          have HAT := hide hatw
          obtain ⟨v2, hv2⟩ : ∃ v2 : Int, (if (2147483647 : Int) < ((LL.getD j noLif).K.length : Int) then 2147483647 else ((LL.getD j noLif).K.length : Int)) = v2 := ⟨_, rfl⟩
          obtain ⟨v4, hv4⟩ : ∃ v4 : Int, (if (2147483647 : Int) < ((LL.getD j noLif).T.length : Int) then 2147483647 else ((LL.getD j noLif).T.length : Int)) = v4 := ⟨_, rfl⟩
          have b2 : 0 ≤ v2 ∧ v2 ≤ 2147483647 := by rw [← hv2]; split <;> omega
          have b4 : 0 ≤ v4 ∧ v4 ≤ 2147483647 := by rw [← hv4]; split <;> omega
          have HV2 := hide hv2
          have HV4 := hide hv4
          simp only at HMS
          rw [hv2, hv4] at HMS
          have hv1 : 0 ≤ addv mo 100000 ∧ addv mo 100000 ≤ 2147483648 := by unfold addv; split <;> omega
          have hv6 : 0 ≤ addv (8 * v2) (5000 * v4) ∧ addv (8 * v2) (5000 * v4) ≤ 2147483648 := by unfold addv; split <;> omega
          generalize hkn : (LL.getD j noLif).K.length = kn at *
          have HKN := hide hkn
          generalize htn : (LL.getD j noLif).T.length = tn at *
          have HTN := hide htn
          clear hat hatw hms hmo2 hbw hbd hv2 hv4 htn hkn
          go_upto_region 5 with fail
          refine rls5 g o n sc j kn kc tn cT ka ts mo (addv mo 100000) v2 (8 * v2) v4 (5000 * v4) (addv (8 * v2) (5000 * v4)) (addv (addv mo 100000) (addv (8 * v2) (5000 * v4))) (by kernel_rfl) (by kernel_rfl) (by kernel_rfl) _ _ (by show 65 ≤ Array.size _; simp) rfl rfl rfl (fun _ L W => Below wr.heap.size wr W ∧ (L 1 = true → L 0 = true) ∧ (L 19 = true → L 1 = true) ∧ (L 20 = true → L 19 = true)) ⟨(), (Below.refl _ _).drew, (fun h => nomatch h), (fun h => nomatch h), (fun h => nomatch h)⟩ ?_ ?_ ?_ ?_ ?_ ?_ ?_ ?_ ?_ ?_ ?_ ?_ ?_ ?_ ?_
          · intro i hi _ L W hW
            simp only [List.mem_cons, List.not_mem_nil, or_false, not_or] at hi
            refine ⟨hW.1, fun h => ?_, fun h => ?_, fun h => ?_⟩
            · rw [upd_ne (by omega)] at h; exact upd_tr i (hW.2.1 h)
            · rw [upd_ne (by omega)] at h; exact upd_tr i (hW.2.2.1 h)
            · rw [upd_ne (by omega)] at h; exact upd_tr i (hW.2.2.2 h)
          · intro _ L W hW h
            cases h20 : L 20 with
            | false => rfl
            | true => rw [hW.2.1 (hW.2.2.1 (hW.2.2.2 h20))] at h; cases h
          · intro _ L W hW _ h0'
            refine (add2_any mo 100000 W h0 (by omega) (by omega) (by omega)).mono ?_
            rintro e w' ⟨rfl, rfl⟩
            refine ⟨(), fun _ _ => rfl, rfl, hW.1, fun _ => upd_tr 1 h0', fun h => upd_self _ _, fun h => ?_⟩
            rw [upd_ne (by omega)] at h; exact upd_tr 1 (hW.2.2.2 h)
          · exact fun W => s_x70 g o n sc j hlt
          · intro _ L W hW _ _
            exact s_ld Tryz.isAgg22 ((hW.1.cell hgl').trans (by have := (unhide HAT).c2; rw [unhide HKN] at this; exact this))
          · intro T W
            have := s_min2 T (kn : Int) 2147483647 (w := W)
            rw [unhide HV2] at this
            exact this
          · exact fun W => s_mul _ _ _ _ (by omega) (by omega)
          · exact fun W => s_x70 g o n sc j hlt
          · intro _ L W hW _ _
            exact s_ld Tryz.isAgg71 ((hW.1.cell hgl').trans (by have := (unhide HAT).c0; rw [unhide HTN] at this; exact this))
          · intro T W
            have := s_min2 T (tn : Int) 2147483647 (w := W)
            rw [unhide HV4] at this
            exact this
          · exact fun W => s_mul _ _ _ _ (by omega) (by omega)
          · intro _ L W hW _ _ _
            refine (add2_any (8 * v2) (5000 * v4) W (by omega) (by omega) (by omega) (by omega)).mono ?_
            rintro e w' ⟨rfl, rfl⟩
            refine ⟨(), fun _ _ => rfl, rfl, hW.1, fun h => ?_, fun h => ?_, fun h => ?_⟩
            · rw [upd_ne (by omega)] at h; exact upd_tr 18 (hW.2.1 h)
            · rw [upd_ne (by omega)] at h; exact upd_tr 18 (hW.2.2.1 h)
            · rw [upd_ne (by omega)] at h; exact upd_tr 18 (hW.2.2.2 h)
          · intro _ L W hW _ h1' _
            refine (add2_any (addv mo 100000) (addv (8 * v2) (5000 * v4)) W hv1.1 hv6.1 (by omega) (by omega)).mono ?_
            rintro e w' ⟨rfl, rfl⟩
            refine ⟨(), fun _ _ => rfl, rfl, hW.1, fun h => ?_, fun h => upd_tr 19 h1', fun h => upd_self _ _⟩
            rw [upd_ne (by omega)] at h; exact upd_tr 19 (hW.2.1 h)
          · intro _ L W hW _ h19
            refine ⟨hW.1, fun h => ?_, fun h => ?_, fun h => upd_tr 20 h19⟩
            · rw [upd_ne (by omega)] at h; exact upd_tr 20 (hW.2.1 h)
            · rw [upd_ne (by omega)] at h; exact upd_tr 20 (hW.2.2.1 h)
          intro _ L W _ hW
          have HBW := hide ((unhide HB).trans (hW.1.mono (unhide HB).size))
          clear hW
          generalize addv (addv mo 100000) (addv (8 * v2) (5000 * v4)) = v7 at *
          generalize addv (8 * v2) (5000 * v4) = v6 at *
          generalize addv mo 100000 = v1 at *
          simp only [Act.put, List.setIfInBounds_toArray, List.set_cons_succ, List.set_cons_zero]
          go_wp2
          go_round
          case measure => simp [Go.RowKit.intOf] <;> omega
          case rel =>
            refine ⟨j + 1, v7, by omega, by simp, rfl, (unhide HMS).1, (unhide HMS).2.1, fun h7 => ⟨?_, fun i hi => ?_⟩, unhide HBW⟩
            · have h1 := ((unhide HMS).2.2 h7).1
              have h2 := ((unhide HMO) hle).1
              push_cast
              omega
            · by_cases e : i = j
              · subst e
                have h1 := ((unhide HMS).2.2 h7).2
                rw [unhide HTN]
                omega
              · exact ((unhide HMO) hle).2 i (by omega)
      · obtain rfl : j = n := by omega
        have hlt' : ¬ (j : Int) < (j : Int) := by omega
        have hgt' : ¬ (2147483647 : Int) < mo := by omega
        have hn2 : j ≤ 21473 := by have := (hmo2 hle).1; omega
        have HTB := hide (hmo2 hle).2
        have HB := hide hbw
        clear hbw hmo2
        go_wp2_with fail
        refine (unhide HAW _).mono ?_
        rintro e w1 ⟨rfl, b1⟩
        have HB1 := hide ((unhide HB).trans (b1.mono (unhide HB).size))
        clear b1 HAW HB
        go_wp2_with fail
        refine (unhide HPK _).mono ?_
        rintro e w1' ⟨rfl, rfl⟩
        have e8 := unhide HE8
        go_upto_region 10 with fail
        clear e8 HPK
        go_wp2_with fail
        refine (unhide HZN _).mono ?_
        rintro e w2 ⟨D, vl, rfl, hD2, nD2, b2⟩
        have HD2 := hide hD2
        have HNO := hide (fun k hk => Nat.le_trans (unhide HB1).size (nD2 k hk))
        have HB2 := hide ((unhide HB1).trans (b2.mono (unhide HB1).size))
        have HAR := hide (arm_any hD2 (bg : Int))
        rw [show armv (Lv [] (Bz r zs zs) 0) (bg : Int) = 0 by simp [armv, Lv, show ¬ (bg : Int) < 0 by omega], show (Lv [] (Bz r zs zs) 0).arm (bg : Int) = Av (Bz r zs zs) bg 0 by simp [Ds.arm, Lv, Av, show ¬ (bg : Int) < 0 by omega]] at HAR
        clear hD2 nD2 b2 HZN HB1 HD2
        go_wp2_with (refine (unhide HPB _).mono ?_; rintro e wa ⟨rfl, hwa⟩; rw [hwa]; clear hwa)
        refine (unhide HAR).mono ?_
        rintro e w3 ⟨rfl, hD3, o3⟩
        have HB3 := hide (o3.below (unhide HB2) (unhide HB2).size (fun k e => unhide HNO k (.inl e)))
        have HD3 := hide hD3
        clear hD3 o3 HAR HB2 HPB
        go_wp2_with fail
        refine (unhide HNT _).mono ?_
        rintro e w4 ⟨rfl, b4⟩
        have hd4 := (unhide HD3).below b4
        have hok4 : Ok (Av (Bz r zs zs) bg 0) := ⟨fun i j h1 h2 => absurd h2 (Nat.not_lt_zero _), fun x hx => (nomatch hx), (unhide HFR).d5, by show 8 ≤ (Bz r zs zs).length ∧ (Bz r zs zs).length ≤ 4096; rw [(unhide HFR).dl]; exact hm8, ⟨by show (0 : Int) ≤ bg; omega, by show (bg : Int) ≤ 9223372036854775807; omega⟩⟩
        have hfm := format_any hd4 hok4 ⟨by show (0 : Int) ≤ 0; omega, by show (0 : Int) ≤ 99999999999999999; omega⟩ n3
        have hfo := unhide HFO _ (unhide HFR) (bg : Int) 0 (by omega)
        have HB4 := hide ((unhide HB3).trans (b4.mono (unhide HB3).size))
        have hok5 := fmt_ok hok4 n3
        generalize fmt (Av (Bz r zs zs) bg 0) n3 = FM at *
        obtain ⟨er, d5⟩ := FM
        have HFM := hide hfm
        have HFP := hide hfo
        have HOK5 := hide hok5
        clear hok5 hfm hfo b4 hd4 hok4 HD3 HB3
        simp only at HFM
        go_wp2_with fail
        refine (unhide HFM).mono ?_
        rintro e w5 ⟨rfl, vw5, hD5, o5, nw5⟩
        have HD5 := hide hD5
        have HB5 := hide (o5.below (unhide HB4) (unhide HB4).size (fun k e => unhide HNO k e))
        have HNO5 := hide (show ∀ k, Of D vw5 vl k → w.heap.size ≤ k from fun k e => by
          rcases e with e | e | e
          · exact unhide HNO k (.inl e)
          · rcases nw5 k e with q | q
            · exact unhide HNO k (.inr (.inl q))
            · exact Nat.le_trans (unhide HB4).size q
          · exact unhide HNO k (.inr (.inr e)))
        clear hD5 o5 nw5 HFM HB4
        go_upto_if 94 with fail
        go_cut [15, 16, 17, 18, 19, 20] from 95 to 127 (fun _ _ _ _ _ _ wc => Laid m D vl n3 w wc)
        case first =>
          as_aux_lemma =>
            rcases (unhide HFP) with ⟨last2, f', a', e, sd, hf', hf2, ha1, ha2⟩ | ⟨d', e, hf1, hdead, ha1, ha2, hst⟩
            · obtain ⟨rfl, rfl⟩ := Prod.mk.inj e
              have HF := hide (show Laid m D vl n3 w w5 from ⟨last2, f', a', vw5, unhide HD5, unhide HOK5, sd, hf', by omega, by omega, unhide HNO5, unhide HB5⟩)
              clear sd e
              go_wp2
              go_meet
              exact unhide HF
            · obtain ⟨rfl, rfl⟩ := Prod.mk.inj e
              have HST := hide hst
              have HDD := hide (dead_any (unhide HD5))
              rw [hdead] at HDD
              have HKP := hide (kept2_any (unhide HD5) (unhide HOK5) la ln lc L0 ((unhide HL).below (unhide HB5)) (unhide HL0))
              clear hst hdead e
              go_wp2_with (refine (unhide HDD).mono ?_; rintro e wa ⟨rfl, hwa⟩; rw [hwa]; clear hwa)
              refine (unhide HKP).mono ?_
              rintro e w6 ⟨V, k, rfl, hk, rV, nV, b6⟩
              have HCR := hide (crashK_any ((unhide HD5).below b6) (unhide HOK5) V L0 k hk rV)
              have HB6 := hide ((unhide HB5).trans (b6.mono (unhide HB5).size))
              obtain ⟨qv, cv, rfl⟩ := owns_form rV
              clear rV nV b6 hk HKP HDD
              go_wp2_with fail
              refine (unhide HCR).mono ?_
              rintro e w7 ⟨rfl, vw7, st, hD7, o7, nw7⟩
              have hs7 := unhide HST st
              have hNO7 : ∀ k, Of D vw7 vl k → w.heap.size ≤ k := fun k e => by
                rcases e with e | e | e
                · exact unhide HNO5 k (.inl e)
                · exact unhide HNO5 k (.inr (.inl (nw7 k e)))
                · exact unhide HNO5 k (.inr (.inr e))
              have HNO7 := hide hNO7
              have HB7 := hide (o7.below (unhide HB6) (unhide HB6).size (fun k e => unhide HNO5 k (e.elim .inl (fun e => .inr (.inr e)))))
              have hD7' : DAt D (Av (crs d5.last d5.ws st d5.ws.length) 0 d5.acts) vw7 vl w7 := hD7
              have ha3 : 0 ≤ d5.acts ∧ d5.acts ≤ 3 := by omega
              generalize crs d5.last d5.ws st d5.ws.length = lc7 at *
              generalize d5.acts = a7 at *
              have HD7 := hide hD7'
              clear hD7 hD7' o7 nw7 hNO7 HCR HST
              rcases hs7 with hF | hS
              · have ok7 := av_ok hF.dl hF.d5 hF.m8 (f := 0) a7 (by omega) (by omega)
                have HMN := hide (mountN_any (unhide HD7) ok7 rfl (hF.hct 0 a7))
                have hfo := unhide HFO lc7 hF 0 a7 (by omega)
                have HFO7 := hide hfo
                have HOK7 := hide ok7
                have HFM7 := hide (fun (W : World) (b : Below w7.heap.size w7 W) => format_any ((unhide HD7).below b) ok7 ⟨ha3.1, by show a7 ≤ 99999999999999999; omega⟩ n3)
                have HOK8 := hide (fmt_ok ok7 n3)
                clear ok7 hF hfo
                go_wp2_with fail
                refine (unhide HMN).mono ?_
                rintro e w8 ⟨rfl, b8⟩
                have HB8 := hide b8
                clear b8 HMN
                go_wp2_with fail
                refine (unhide HNT _).mono ?_
                rintro e w9 ⟨rfl, b9⟩
                have HB9 := hide ((unhide HB8).trans (b9.mono (unhide HB8).size))
                have HF9 := hide (unhide HFM7 w9 (unhide HB9))
                clear b9 HFM7
                rcases unhide HFO7 with ⟨last2, f', a', e, sd, hf', hf2, ha4, ha5⟩ | ⟨d'', e, hf1, _⟩
                · rw [e] at HF9 HOK8
                  have HSD := hide sd
                  clear sd e HFO7
                  simp only at HF9 HOK8
                  go_wp2_with fail
                  refine (unhide HF9).mono ?_
                  rintro e w10 ⟨rfl, vw10, hD10, o10, nw10⟩
                  have HF := hide (show Laid m D vl n3 w w10 from ⟨last2, f', a', vw10, hD10, unhide HOK8, unhide HSD, hf', by omega, by omega, fun k e => by
                    rcases e with e | e | e
                    · exact unhide HNO7 k (.inl e)
                    · rcases nw10 k e with q | q
                      · exact unhide HNO7 k (.inr (.inl q))
                      · exact Nat.le_trans (Nat.le_trans (unhide HB7).size (unhide HB9).size) q
                    · exact unhide HNO7 k (.inr (.inr e)), o10.below ((unhide HB7).trans ((unhide HB9).mono (unhide HB7).size)) (Nat.le_trans (unhide HB7).size (unhide HB9).size) (fun k e => unhide HNO7 k e)⟩)
                  clear hD10 o10 nw10
                  go_wp2
                  go_meet
                  exact unhide HF
                · omega
              · have ok7 := av_ok hS.dl hS.d5 hS.m8 (f := 0) a7 (by omega) (by omega)
                have hc7 : hct (Av lc7 0 a7) = (⟨1, 0, m, n3⟩, true) := hct_of rfl rfl hS.dl hm8.1 (by omega) hS.hd hS.ot
                have HMT := hide (mount0_any (unhide HD7) ok7 rfl (by rw [hc7]) (by rw [hc7]))
                have HSD := hide hS
                have HOK7 := hide ok7
                clear ok7 hS hc7
                go_wp2_with fail
                refine (unhide HMT).mono ?_
                rintro e w8 ⟨P, vu, rfl, hp8, _, _, b8⟩
                have HF := hide (show Laid m D vl n3 w w8 from ⟨lc7, 0, a7, vw7, hp8.dat, unhide HOK7, unhide HSD, by omega, by omega, by omega, unhide HNO7, (unhide HB7).trans (b8.mono (unhide HB7).size)⟩)
                clear hp8 b8
                go_wp2
                go_meet
                exact unhide HF
        case rest =>
          obtain ⟨last, f, a, vw, hD, hok, hsd, hf, ha0, ha1, hno, hbw⟩ := hcut
          have HD := hide hD
          have HOKa := hide hok
          have HSD := hide hsd
          have HNOa := hide hno
          have HBW := hide hbw
          clear hD hok hsd hno hbw HD5 HB5 HNO5 HFP HOK5 HFO HFR HL HL0
          go_wp2_with fail
          refine (unhide HNT _).mono ?_
          rintro e w6 ⟨rfl, b6⟩
          have HBW6 := hide ((unhide HBW).trans (b6.mono (unhide HBW).size))
          have HD6 := hide ((unhide HD).below b6)
          clear b6 HD HBW HNT
          have HA6 := hide (heap_alloc_new w6 (.cells #[I 0, I 0, .string ⟨#[]⟩, .slice none 0 0] 83))
          have k7 := setRow_row (vs := #[I 1, I 0, S n3, .slice none 0 0]) (unhide HA6)
          have b7 := belowR ((Below.refl w6.heap.size w6).alloc (Nat.le_refl _) (.cells #[I 0, I 0, .string ⟨#[]⟩, .slice none 0 0] 83)) (Nat.le_refl _) #[I 1, I 0, S n3, .slice none 0 0]
          have z7 : ((w6.alloc (.cells #[I 0, I 0, .string ⟨#[]⟩, .slice none 0 0] 83)).setRow w6.heap.size #[I 1, I 0, S n3, .slice none 0 0]).heap.size = w6.heap.size + 1 := by simp
          have x0 := cell_of_row _ _ 0 _ 83 (0, 0) k7
          have x1 := cell_of_row _ _ 1 _ 83 (0, 0) k7
          have x2 := cell_of_row _ _ 2 _ 83 (0, 0) k7
          have x3 := cell_of_row _ _ 3 _ 83 (0, 0) k7
          have xl := lt_of_row k7
          have HK7 := hide k7
          have HB7 := hide b7
          have HZ7 := hide z7
          clear k7 b7 z7
          go_upto_region 26 with (refine wp_st83 rfl (.tmp 21) (.tmp 129) rfl w6.heap.size (by rfl) 1 0 n3 (.slice none 0 0) rfl (by rfl) _ rfl (unhide HA6) ?_; generalize (w6.alloc (.cells #[I 0, I 0, .string ⟨#[]⟩, .slice none 0 0] 83)).setRow w6.heap.size #[I 1, I 0, S n3, .slice none 0 0] = w7 at *)
          have HA7 := hide (heap_alloc_new w7 (.cells #[I 0, I 0, .string ⟨#[]⟩, .slice none 0 0] 83))
          go_wp2_with (refine wp_st83 rfl (.tmp 22) (.tmp 130) rfl w7.heap.size (by rfl) 1 0 n3 (.slice none 0 0) rfl (by rfl) _ rfl (unhide HA7) ?_)
          have b8 := belowR ((Below.refl w7.heap.size w7).alloc (Nat.le_refl _) (.cells #[I 0, I 0, .string ⟨#[]⟩, .slice none 0 0] 83)) (Nat.le_refl _) #[I 1, I 0, S n3, .slice none 0 0]
          have k8 := setRow_row (vs := #[I 1, I 0, S n3, .slice none 0 0]) (unhide HA7)
          generalize (w7.alloc (.cells #[I 0, I 0, .string ⟨#[]⟩, .slice none 0 0] 83)).setRow w7.heap.size #[I 1, I 0, S n3, .slice none 0 0] = w8 at *
          have b68 : Below w6.heap.size w6 w8 := (unhide HB7).trans (b8.mono (unhide HB7).size)
          obtain ⟨X, hX⟩ : ∃ X, X = w6.heap.size := ⟨_, rfl⟩
          obtain ⟨Y, hY⟩ : ∃ Y, Y = w7.heap.size := ⟨_, rfl⟩
          have hof : ∀ k, Of D vw vl k → k < w6.heap.size := (unhide HD6).old
          have hH : Hv m X Y D vl vw 1 0 f a n3 [] none 0 1 0 n3 [] none 0 last w8 := by
            have z7 := unhide HZ7
            refine ⟨(unhide HD6).below b68, unhide HOKa, ?_, ?_, fun e => by have := hof _ e; omega, fun e => by have := hof _ e; omega, fun W _ => ⟨fun h => absurd h (Nat.lt_irrefl _), ⟨rfl, fun h => absurd h (Nat.lt_irrefl _)⟩⟩, fun W _ => ⟨fun h => absurd h (Nat.lt_irrefl _), ⟨rfl, fun h => absurd h (Nat.lt_irrefl _)⟩⟩, unhide HNL, unhide HNL, .inl (unhide HSD)⟩
            · rw [hX]; exact (b8.block _ (lt_of_row (unhide HK7))).trans (unhide HK7)
            · rw [hY]; exact k8
          have HH := hide hH
          have HXY := hide (show w.heap.size ≤ X ∧ w.heap.size ≤ Y ∧ X ≠ Y by have h1 := (unhide HBW6).size; have h2 := unhide HZ7; omega)
          have HB8 := hide ((unhide HBW6).trans (b68.mono (unhide HBW6).size))
          rw [← hX, ← hY]
          clear hH b8 k8 b68 hX hY hof x0 x1 x2 x3 xl HK7 HB7 HZ7 HA6 HA7 HD6 HBW6 HSD HOKa
          go_wp2
          go_loopw [23] (fun i wr => ∃ k : Nat, k ≤ j ∧ i = .int .i64 k ∧ ∃ vw g r f a nt Lp q c gu ru ntu Lu qu cu last, Hv m X Y D vl vw g r f a nt Lp q c gu ru ntu Lu qu cu last wr ∧ g ≤ 1 + 429500 * (k : Int) ∧ gu ≤ 1 + 429500 * (k : Int) ∧ 0 ≤ a ∧ a ≤ 10 + 4295000 * (k : Int) ∧ (∀ k, Of D vw vl k → w.heap.size ≤ k) ∧ Below w.heap.size w wr) (fun i _ => j + 1 - (Go.RowKit.intOf i).toNat)
          case atStart => exact ⟨0, by omega, rfl, vw, 1, 0, f, a, n3, [], none, 0, 1, 0, n3, [], none, 0, last, unhide HH, by omega, by omega, by omega, by omega, unhide HNOa, unhide HB8⟩
          case round =>
            clear HH HNOa HB8
            obtain ⟨k, hk, rfl, vw, g, r, f, a, nt, Lp, q, c, gu, ru, ntu, Lu, qu, cu, last, hV, hg, hgu, ha0, ha1, hno, hbw⟩ := hrel
            have hkj : (k : Int) ≤ (j : Int) := by omega
            have HV := hide hV
            have HNO := hide hno
            have HBW := hide hbw
            rcases hV.sd with hU | ⟨hne, hS⟩
            · as_aux_lemma =>
                have HM := hide (mountS_any hV.dat hV.ok hU)
                have HSD := hide hU
                clear hV hU hno hbw
                go_wp2_with fail
                refine (unhide HM).mono ?_
                rintro e w1 ⟨P, vu, rfl, hp1, lP, lu, b1⟩
                have hy1 := (b1.block Y (lt_of_row (unhide HV).yb)).trans (unhide HV).yb
                have y0 := cell_of_row _ _ 0 _ 83 (0, 0) hy1
                have y1 := cell_of_row _ _ 1 _ 83 (0, 0) hy1
                have y2 := cell_of_row _ _ 2 _ 83 (0, 0) hy1
                have y3 := cell_of_row _ _ 3 _ 83 (0, 0) hy1
                have yl := lt_of_row hy1
                have HGE := hide (fun n => generation_any (hp1.below (Only.drewN (fun _ => False) w1 n).to_below))
                rw [show (mkp m gu ru ntu (Lu.map (fun x : Pv => x.1))).h.gen = gu from rfl] at HGE
                have HP1 := hide hp1
                have HLP := hide lP
                have HLU := hide lu
                have HB1 := hide b1
                have HY1 := hide hy1
                clear hp1 lP lu b1 hy1 HM
                go_upto_region 33 with fail
                go_quiet ((go_at_call 40; exact Calls.quiet_of_same (unhide HGE _)))
                have hbq := (Only.drewN (fun _ => False) w1 nq).to_below
                have hb1q := (unhide HB1).trans (hbq.mono (unhide HB1).size)
                have hyq := (hbq.block Y (lt_of_row (unhide HY1))).trans (unhide HY1)
                have hxq := (hb1q.block X (lt_of_row (unhide HV).bx)).trans (unhide HV).bx
                have hpq := (unhide HP1).below hbq
                have hXn : ¬ POf P D vw vl vu X := fun e => by
                  have hx := lt_of_row (unhide HV).bx
                  rcases e with e | e | e
                  · have := unhide HLP; omega
                  · have := unhide HLU _ e; omega
                  · exact (unhide HV).nx e
                have hYn : ¬ POf P D vw vl vu Y := fun e => by
                  have hx := lt_of_row (unhide HV).yb
                  rcases e with e | e | e
                  · have := unhide HLP; omega
                  · have := unhide HLU _ e; omega
                  · exact (unhide HV).ny e
                have hnoP : ∀ k, POf P D vw vl vu k → w.heap.size ≤ k := fun k e => by
                  have hx := (unhide HBW).size
                  rcases e with e | e | e
                  · have := unhide HLP; omega
                  · have := unhide HLU _ e; omega
                  · exact unhide HNO k e
                have hfz : ∀ k, k < wr.heap.size → FZ P D vw vl vu (fun k => k = X ∨ k = Y) k → Of D vw vl k ∨ k = X ∨ k = Y := fun k hk e => by
                  rcases e with e | e
                  · rcases e with e | e | e
                    · have := unhide HLP; omega
                    · have := unhide HLU _ e; omega
                    · exact .inl e
                  · exact .inr e
                generalize w1.drewN nq = w1q at *
                have HXQ := hide hxq
                have HQ0 := hide (And.intro hpq (And.intro hyq hb1q))
                have hy0 := cell_of_row _ _ 0 _ 83 (0, 0) hyq
                have hy1 := cell_of_row _ _ 1 _ 83 (0, 0) hyq
                have hy2 := cell_of_row _ _ 2 _ 83 (0, 0) hyq
                have hy3 := cell_of_row _ _ 3 _ 83 (0, 0) hyq
                have hyl := lt_of_row hyq
                clear hbq hb1q hyq hxq hpq y0 y1 y2 y3 yl HB1 HY1 HP1 HGE
                go_upto_region 35 with (refine wp_st83 rfl (.tmp 21) (.tmp 153) rfl X (by rfl) gu ru ntu (.slice qu Lu.length cu) rfl (by rfl) _ rfl (unhide HXQ) ?_)
                have HQ := hide (show ∃ gs rs nts Ls qs cs, Mt m X Y P D vl vw vu gs rs f a nts Ls qs cs last w (w1q.setRow X #[I gu, I ru, S ntu, .slice qu Lu.length cu]) ∧ gs ≤ 1 + 429500 * (k : Int) by
                  obtain ⟨hpq, hyq, hb1q⟩ := unhide HQ0
                  have oX := setRow_Only w1q X #[I gu, I ru, S ntu, .slice qu Lu.length cu]
                  have hxy := (unhide HXY).2.2
                  refine ⟨gu, ru, ntu, Lu, qu, cu, ⟨unhide HSD, (unhide HV).n2, hpq.only oX (fun k e1 e2 => hXn (e2 ▸ e1)), setRow_row (unhide HXQ), ⟨_, (oX.block Y (lt_of_row hyq) (Ne.symm hxy)).trans hyq, rfl⟩, hXn, hYn, ?_, hnoP, ?_⟩, hgu⟩
                  · exact (unhide HV).s2.step ((Only.of_below hb1q).trans (oX.mono (Q := fun k => Of D vw vl k ∨ k = X ∨ k = Y) (fun k _ e => .inr (.inl e))) (fun _ _ e => e)) hfz
                  · exact belowR ((unhide HBW).trans (hb1q.mono (unhide HBW).size)) (unhide HXY).1 _)
                generalize w1q.setRow X #[I gu, I ru, S ntu, .slice qu Lu.length cu] = w2 at *
                clear HXQ HQ0 hy0 hy1 hy2 hy3 hyl hXn hYn hnoP hfz HLP HLU HSD HV HNO HBW
                obtain ⟨gs, rs, nts, Ls, qs, cs, hM, hgs⟩ := unhide HQ
                have x0 := cell_of_row _ _ 0 _ 83 (0, 0) hM.bx
                have x1 := cell_of_row _ _ 1 _ 83 (0, 0) hM.bx
                have x2 := cell_of_row _ _ 2 _ 83 (0, 0) hM.bx
                have x3 := cell_of_row _ _ 3 _ 83 (0, 0) hM.bx
                have xl := lt_of_row hM.bx
                have HIS := hide (is_any hM.sd.hds nts rfl hM.nl f a qs cs w2 hM.pd (fun W' o => by
                  have := (hM.sp W' (o.mono (fun k _ e => .inl (.inl e)))).2
                  rw [List.length_map]
                  exact this) (by have := hM.sd.few; exact this))
                rw [List.length_map] at HIS
                have HM := hide hM
                clear hM HQ
                go_wp2_with fail
                refine (unhide HIS).mono ?_
                rintro e w3 ⟨rfl, hp3, o3⟩
                have HM3 := hide ((unhide HM).move o3 (fun k e => .inl e) hp3)
                clear hp3 o3 HM HIS x0 x1 x2 x3 xl
                by_cases hkn : k = j
                · have hkn' : (k : Int) = (j : Int) := by omega
                  go_wp2
                  go_ret
                  exact ⟨rfl, (unhide HM3).be⟩
                · have hkn' : ¬ (k : Int) = (j : Int) := by omega
                  have hlt2 : k < j := by omega
                  obtain ⟨ga, oa, ts, cT, ka, kc, es, hgl, hat⟩ := (unhide HAL).at hlt2
                  subst es
                  have hbd := unhide HLL _ (getD_in LL noLif k (by have := unhide HAN; omega))
                  have htl := (unhide HTB) k hlt2
                  generalize LL.getD k noLif = lf at *
                  obtain ⟨T, arm, K⟩ := lf
                  simp only at hbd htl
                  obtain ⟨bd1, bd2, bd3, bd4, bd5⟩ := hbd
                  have t1 : w3.cell? ⟨ga, oa + k * 3 + 1, none⟩ = some (I arm) := (hat.below (unhide HM3).be).c1
                  have tl := Nat.lt_of_lt_of_le hgl (unhide HM3).be.size
                  have hk60 := pkv_lt arm 60 (by omega)
                  have HPA := hide (fun W' => pick_any arm 60 W' (by omega) (by omega) bd1.1 bd1.2)
                  generalize pkv arm 60 = k60 at *
                  have HAR := hide (arm_any (unhide HM3).pd.dat (k60 : Int))
                  rw [show armv (Av last f a) (k60 : Int) = 0 by simp [armv, Av, show ¬ (k60 : Int) < 0 by omega], show (Av last f a).arm (k60 : Int) = Av last k60 a by simp [Ds.arm, Av, show ¬ (k60 : Int) < 0 by omega]] at HAR
                  have HAT := hide hat
                  have HBD := hide (And.intro bd2 bd3)
                  clear hat bd2 bd3
                  go_wp2_with (refine (unhide HPA _).mono ?_; rintro e wa ⟨rfl, hwa⟩; rw [hwa]; clear hwa)
                  refine (unhide HAR).mono ?_
                  rintro e w4 ⟨rfl, hD4, o4⟩
                  have hp3 := (unhide HM3).pd
                  have hpd4 : PD P D (Av last k60 a) (mkp m gs rs nts (Ls.map (·.1))) vw vl vu w4 := ⟨hD4, av_ok (unhide HM3).sd.dl (unhide HM3).sd.d5 hm8 a (by omega) (by omega), (o4.block P hp3.lt (fun e => hp3.neP D (.inl rfl) e.symm)).trans hp3.blk, owns_only hp3.us o4 (fun k hk e => hp3.neU D (.inl rfl) (by rw [← e]; exact hk)), hp3.len⟩
                  have hM4 := (unhide HM3).move o4 (fun k e => .inr (.inr (.inl e))) hpd4
                  have HM4 := hide hM4
                  have hxy4 : ∀ k, k = X ∨ k = Y → k < w4.heap.size := fun k e => by
                    obtain ⟨cy, y1, _⟩ := hM4.yb
                    have h1 := lt_of_row hM4.bx
                    have h2 := lt_of_row y1
                    omega
                  have HXY4 := hide hxy4
                  have HLI := hide (fun (cb : C5) (L : Nat → Bool) (W : World) (hW : W41 m X Y P D vl vw vu w4 gs a T.length cb L W) (h8 : L 8 = false) => lives_any (m := m) (P := P) (D := D) (vw := vw) (vl := vl) (vu := vu) (last := last) (p := mkp m gs rs nts (Ls.map (·.1))) (fun k => (k = X ∨ k = Y) ∨ BP cb L k) gs rs k60 a nts Ls qs cs W hM4.sd hM4.sd.hds rfl hM4.nl (by omega) (hM4.pd.below (hW.pre h8)) (hW.sx h8 hM4.pd hM4.nx hM4.ny) (hM4.sp.step (Only.of_below (hW.pre h8)) (fun k hk e => e.elim .inl (fun e => e.elim .inr (fun e => by
                      rcases e with ⟨e1, e2⟩ | ⟨e1, e2⟩
                      · have := (hW.b1 e1).1; omega
                      · have := (hW.b2 e1).1; omega)))) ts T.length cT T (fun W' o => ((unhide HAT).below (o.below (hM4.be.trans ((hW.pre h8).mono hM4.be.size)) (Nat.le_trans hM4.be.size (hW.pre h8).size) (fun k e => hM4.no k e))).tl) (unhide HBD).1 (by omega) (by omega) ⟨ha0, by omega⟩ arm ka K.length kc)
                  have tl4 := Nat.lt_of_lt_of_le hgl hM4.be.size
                  have HAT4 := hide ((unhide HAT).below hM4.be)
                  clear hD4 o4 hp3 hpd4 hM4 hxy4 t1 tl HAR HM3 HPA
                  go_upto_region 41 with fail
                  refine rls41 D P X ga oa j sc k (m : Int) (.agg #[I gs, I rs, S nts, .slice qs Ls.length cs]) (.agg #[.slice ts T.length cT, I arm, .slice ka K.length kc]) (by kernel_rfl) (by kernel_rfl) (by kernel_rfl) _ _ (by show 186 ≤ Array.size _; simp) rfl rfl rfl rfl rfl rfl (W41 m X Y P D vl vw vu w4 gs a T.length) ⟨(undef, undef, undef, 0, 0), W41.start (unhide HXY4) _⟩ ?_ ?_ ?_ ?_ ?_ ?_ ?_ ?_ ?_ ?_ ?_ ?_ ?_ ?_ ?_ ?_ ?_ ?_
                  · intro i hi cb L W hW
                    simp only [List.mem_cons, List.not_mem_nil, or_false, not_or] at hi
                    exact hW.pass (by omega) (fun e => by omega)
                  · intro cb L W hW _
                    have hx : W.heap[X]? = some (.cells #[I gs, I rs, S nts, .slice qs Ls.length cs] 83 (0, 0)) := by
                      cases e : L 8 with
                      | false => exact ((hW.pre e).block X (lt_of_row (unhide HM4).bx)).trans (unhide HM4).bx
                      | true =>
                        obtain ⟨_, _, _, _, _, _, _, _, _, _, _, _, _, _, _, _, hp⟩ := hW.post e
                        exact (hp.on.block X (lt_of_row (unhide HM4).bx) (unhide HM4).nx).trans (unhide HM4).bx
                    exact s_ldr Tryz.isAgg83 Tryz.sizeOf83 hx [I gs, I rs, S nts, .slice qs Ls.length cs] rfl rfl
                  · exact fun W => s_x70 ga oa j sc k hlt2
                  · intro cb L W hW _ _
                    have hbW : Below w.heap.size w W := by
                      cases e : L 8 with
                      | false => exact (unhide HM4).be.trans ((hW.pre e).mono (unhide HM4).be.size)
                      | true =>
                        obtain ⟨_, _, _, _, _, _, _, _, _, _, _, _, _, _, _, _, hp⟩ := hW.post e
                        exact hp.on.below (unhide HM4).be (unhide HM4).be.size (fun k e => (unhide HM4).no k e)
                    have hl := (unhide HAT).below hbW
                    refine s_lda Tryz.isAgg73 Tryz.sizeOf73 [.slice ts T.length cT, I arm, .slice ka K.length kc] rfl (fun i v hv => ?_)
                    match i, hv with
                    | 0, hv => cases hv; exact hl.c0
                    | 1, hv => cases hv; exact hl.c1
                    | 2, hv => cases hv; exact hl.c2
                  · intro cb L W hW h8 _ _ _ _ _
                    refine (unhide HLI cb L W hW h8).mono ?_
                    rintro e W' ⟨g', r', nt', Lp', q', c', gu', ru', ntu', Lu', qu', cu', d', p', vw', vu', rfl, ho⟩
                    refine ⟨_, fun i hi => ?_, rfl, hW.call h8 (hW.sx h8 (unhide HM4).pd (unhide HM4).nx (unhide HM4).ny) ho⟩
                    unfold vrls41
                    split <;> first | rfl | (rw [h8] at hi; cases hi) | (rw [hW.dp _ (by omega) hi] at h8; cases h8)
                  · exact fun cb L W hW _ h8 => hW.pass (by omega) (fun _ => h8)
                  · exact fun cb W => rfl
                  · exact fun cb L W hW _ h9 => hW.pass (by omega) (fun _ => hW.dp 9 (by omega) h9)
                  · exact fun cb W => rfl
                  · exact fun cb L W hW _ h9 => hW.pass (by omega) (fun _ => hW.dp 9 (by omega) h9)
                  · exact fun cb W => rfl
                  · exact fun cb L W hW _ h9 => hW.pass (by omega) (fun _ => hW.dp 9 (by omega) h9)
                  · intro cb L W hW h13
                    refine ⟨(cb.1, cb.2.1, cb.2.2.1, W.heap.size, cb.2.2.2.2), _, fun i hi => ?_, s_al Tryz.zeroValue83, hW.al1 h13⟩
                    unfold vrls41
                    split <;> first | rfl | (rw [h13] at hi; cases hi)
                  · intro cb L W hW h14
                    refine ⟨(cb.1, cb.2.1, cb.2.2.1, cb.2.2.2.1, W.heap.size), _, fun i hi => ?_, s_al Tryz.zeroValue83, hW.al2 h14⟩
                    unfold vrls41
                    split <;> first | rfl | (rw [h14] at hi; cases hi)
                  · exact fun cb L W hW _ h10 h13 => hW.st1 (hW.dp 10 (by omega) h10) h13
                  · exact fun cb L W hW _ h11 h14 => hW.st2 (hW.dp 11 (by omega) h11) h14
                  · exact fun cb L W hW _ h12 => hW.pass (by omega) (fun _ => hW.dp 12 (by omega) h12)
                  intro cb L W5 hall hW
                  obtain ⟨g', r', nt', Lp', q', c', gu', ru', ntu', Lu', qu', cu', d', p', vw', vu', hp⟩ := hW.post (hall 8 (by omega))
                  obtain ⟨z1, cs1, z2, z3, z4⟩ := hW.b1 (hall 13 (by omega))
                  obtain ⟨y1, cs2, y2, y3, y4⟩ := hW.b2 (hall 14 (by omega))
                  have z5 := z4 (hall 15 (by omega))
                  have y5 := y4 (hall 16 (by omega))
                  have hBb : ∀ k, BP cb L k ↔ k = cb.2.2.2.1 ∨ k = cb.2.2.2.2 := fun k => by
                    unfold BP
                    rw [hall 13 (by omega), hall 14 (by omega)]
                    simp
                  rw [hp.e1] at z5
                  rw [hp.e2] at y5
                  injection z5 with z5
                  injection y5 with y5
                  subst z5 y5
                  have ee1 := hp.e1
                  have ee2 := hp.e2
                  have ee3 := hp.e3
                  obtain ⟨v1, v2, v3, B1, B2⟩ := cb
                  simp only at ee1 ee2 ee3 z1 z2 y1 y2 hBb ⊢
                  subst ee1 ee2 ee3
                  have hM4 := unhide HM4
                  obtain ⟨cy, yb1, yb2⟩ := hM4.yb
                  have hxy4 := unhide HXY4
                  have hxl4 := hxy4 X (.inl rfl)
                  have hyl4 := hxy4 Y (.inr rfl)
                  have hXp : ¬ POf P D vw' vl vu' X := fun e => (hp.po X e).elim hM4.nx (fun q => by omega)
                  have hYp : ¬ POf P D vw' vl vu' Y := fun e => (hp.po Y e).elim hM4.ny (fun q => by omega)
                  have hX5 := (hp.on.block X hxl4 hM4.nx).trans hM4.bx
                  have hY5 := (hp.on.block Y hyl4 hM4.ny).trans yb1
                  have hb5 : Below w.heap.size w W5 := hp.on.below hM4.be hM4.be.size (fun k e => hM4.no k e)
                  have hXY := unhide HXY
                  have oX := setRow_Only W5 X #[I g', I r', S nt', .slice q' Lp'.length c']
                  have hx6 := setRow_row (vs := #[I g', I r', S nt', .slice q' Lp'.length c']) hX5
                  have hy6 := (oX.block Y (lt_of_row hY5) (Ne.symm hXY.2.2)).trans hY5
                  have hB6 := (oX.block B2 (lt_of_row y2) (by omega)).trans y2
                  have hb6 := belowR hb5 hXY.1 #[I g', I r', S nt', .slice q' Lp'.length c']
                  have HP := hide hp
                  have HX5 := hide hX5
                  have HY6 := hide hy6
                  have HX6 := hide hx6
                  have HB6 := hide hb6
                  have HBb := hide hBb
                  have HXP := hide (And.intro hXp hYp)
                  have HCY := hide yb2
                  have HOX := hide oX
                  have HBZ := hide (And.intro z1 y1)
                  have s0 := cell_of_row _ _ 0 _ 83 (0, 0) z2
                  have s1 := cell_of_row _ _ 1 _ 83 (0, 0) z2
                  have s2 := cell_of_row _ _ 2 _ 83 (0, 0) z2
                  have s3 := cell_of_row _ _ 3 _ 83 (0, 0) z2
                  have sl := lt_of_row z2
                  have HR6 := hide hB6
                  clear hall hW z2 z3 z4 y2 y3 y4 hp hM4 yb1 yb2 hxy4 hXp hYp hX5 hY5 hb5 hXY oX hx6 hy6 hB6 hb6 hBb z1 y1 HLI
                  simp only [Act.put, List.setIfInBounds_toArray, List.set_cons_succ, List.set_cons_zero]
                  go_upto_region 43 with (refine wp_st83 rfl (.tmp 21) (.tmp 186) rfl X (by rfl) g' r' nt' (.slice q' Lp'.length c') rfl (by rfl) _ rfl (unhide HX5) ?_; generalize W5.setRow X #[I g', I r', S nt', .slice q' Lp'.length c'] = w6 at *)
                  have s0' := cell_of_row _ _ 0 _ 83 (0, 0) (unhide HR6)
                  have s1' := cell_of_row _ _ 1 _ 83 (0, 0) (unhide HR6)
                  have s2' := cell_of_row _ _ 2 _ 83 (0, 0) (unhide HR6)
                  have s3' := cell_of_row _ _ 3 _ 83 (0, 0) (unhide HR6)
                  have sl' := lt_of_row (unhide HR6)
                  have hXY := unhide HXY
                  have oY := setRow_Only w6 Y #[I gu', I ru', S ntu', .slice qu' Lu'.length cu']
                  have hx7 := (oY.block X (lt_of_row (unhide HX6)) hXY.2.2).trans (unhide HX6)
                  have hy7 := setRow_row (vs := #[I gu', I ru', S ntu', .slice qu' Lu'.length cu']) (unhide HY6)
                  have hb7 := belowR (unhide HB6) hXY.2.1 #[I gu', I ru', S ntu', .slice qu' Lu'.length cu']
                  have o57 : Only (fun k => k = X ∨ k = Y) W5 (w6.setRow Y #[I gu', I ru', S ntu', .slice qu' Lu'.length cu']) := ((unhide HOX).mono (fun k _ e => .inl e)).trans oY (fun k _ e => .inr e)
                  have hp7 := (unhide HP).pd.only o57 (fun k e1 e2 => by
                    rcases e2 with e2 | e2
                    · exact (unhide HXP).1 (e2 ▸ e1)
                    · exact (unhide HXP).2 (e2 ▸ e1))
                  have HX7 := hide hx7
                  have HY7 := hide hy7
                  have HB7 := hide hb7
                  have HO57 := hide o57
                  have HP7 := hide hp7
                  have hat7 := (unhide HAT).below hb7
                  have t2 : (w6.setRow Y #[I gu', I ru', S ntu', .slice qu' Lu'.length cu']).cell? ⟨ga, oa + k * 3 + 2, none⟩ = some (.slice ka K.length kc) := hat7.c2
                  have t2l : ga < (w6.setRow Y #[I gu', I ru', S ntu', .slice qu' Lu'.length cu']).heap.size := Nat.lt_of_lt_of_le hgl hb7.size
                  have HKP := hide (kept2_any hp7.dat hp7.ok ka K.length kc K hat7.kl (unhide HBD).2)
                  clear oY hx7 hy7 hb7 o57 hp7 hat7 hXY s0 s1 s2 s3 sl
                  go_wp2_with (refine wp_st83 rfl (.tmp 22) (.tmp 187) rfl Y (by rfl) gu' ru' ntu' (.slice qu' Lu'.length cu') rfl (by rfl) _ (unhide HCY) (unhide HY6) ?_; generalize w6.setRow Y #[I gu', I ru', S ntu', .slice qu' Lu'.length cu'] = w7 at *)
                  refine (unhide HKP).mono ?_
                  rintro e w8 ⟨V, kk, rfl, hkk, rV, nV, b8⟩
                  have HCR := hide (crashK_any ((unhide HP7).dat.below b8) (unhide HP7).ok V K kk hkk rV)
                  obtain ⟨qv, cv, rfl⟩ := owns_form rV
                  have HB8 := hide b8
                  clear rV nV b8 hkk HKP t2 t2l s0' s1' s2' s3' sl'
                  go_wp2_with fail
                  refine (unhide HCR).mono ?_
                  rintro e w9 ⟨rfl, vw9, st, hD9, o9, nw9⟩
                  have HF := hide (show ∃ vw g r f a nt Lp q c gu ru ntu Lu qu cu last, Hv m X Y D vl vw g r f a nt Lp q c gu ru ntu Lu qu cu last w9 ∧ g ≤ 1 + 429500 * ((k + 1 : Nat) : Int) ∧ gu ≤ 1 + 429500 * ((k + 1 : Nat) : Int) ∧ 0 ≤ a ∧ a ≤ 10 + 4295000 * ((k + 1 : Nat) : Int) ∧ (∀ k, Of D vw vl k → w.heap.size ≤ k) ∧ Below w.heap.size w w9 by
                    have hp := unhide HP
                    have hM4 := unhide HM4
                    have hof : ∀ k, Of D vw9 vl k → Of D vw' vl k := fun k e => by
                      rcases e with e | e | e
                      · exact .inl e
                      · exact .inr (.inl (nw9 k e))
                      · exact .inr (.inr e)
                    have hofp : ∀ k, Of D vw' vl k → POf P D vw' vl vu' k := fun k e => .inr (.inr e)
                    have ho9 : ∀ k, (k = D ∨ vl.ownBlock = some k) → Of D vw' vl k := fun k e => e.elim .inl (fun e => .inr (.inr e))
                    have hno : ∀ k, Of D vw' vl k → w.heap.size ≤ k := fun k e => (hp.po k (hofp k e)).elim (hM4.no k) (fun q => Nat.le_trans hM4.be.size q)
                    have hb8 := (unhide HB7).trans ((unhide HB8).mono (unhide HB7).size)
                    have hX9 := (o9.block X (Nat.lt_of_lt_of_le (lt_of_row (unhide HX7)) (unhide HB8).size) (fun e => (unhide HXP).1 (hofp X (ho9 X e)))).trans (((unhide HB8).block X (lt_of_row (unhide HX7))).trans (unhide HX7))
                    have hY9 := (o9.block Y (Nat.lt_of_lt_of_le (lt_of_row (unhide HY7)) (unhide HB8).size) (fun e => (unhide HXP).2 (hofp Y (ho9 Y e)))).trans (((unhide HB8).block Y (lt_of_row (unhide HY7))).trans (unhide HY7))
                    have o59 : Only (fun k => FZ P D vw' vl vu' (fun k => k = X ∨ k = Y) k) W5 w9 := (((unhide HO57).mono (fun k _ e => .inr e)).trans (Only.of_below (P := fun _ => False) (unhide HB8)) (fun _ _ e => e.elim)).trans o9 (fun k _ e => .inl (hofp k (ho9 k e)))
                    have hstd : (Std m gu' ru' ntu' (Lu'.map (·.1)) (crs d'.last d'.ws st d'.ws.length) ∨ (gu' ≠ g' ∧ Std m g' r' nt' (Lp'.map (·.1)) (crs d'.last d'.ws st d'.ws.length))) ∧ gu' ≤ g' + 1 := by
                      rcases hp.ou with ⟨⟨e1, e2, e3, e4, e5, e6⟩, hs⟩ | ⟨e1, hs⟩
                      · refine ⟨.inl ?_, by omega⟩
                        rw [e1, e2, e3, e4]
                        exact hs st
                      · rcases hs st with q | q
                        · exact ⟨.inr ⟨by omega, q⟩, by omega⟩
                        · exact ⟨.inl q, by omega⟩
                    have hdl : (crs d'.last d'.ws st d'.ws.length).length = m ∧ ∀ x ∈ crs d'.last d'.ws st d'.ws.length, x.length = 512 := by
                      rcases hstd.1 with q | ⟨_, q⟩
                      · exact ⟨q.dl, q.d5⟩
                      · exact ⟨q.dl, q.d5⟩
                    have hab := hp.ab
                    have hgb := hp.gb
                    refine ⟨vw9, g', r', 0, d'.acts, nt', Lp', q', c', gu', ru', ntu', Lu', qu', cu', crs d'.last d'.ws st d'.ws.length, ⟨hD9, av_ok hdl.1 hdl.2 hm8 d'.acts (by omega) (by omega), hX9, hY9, fun e => (unhide HXP).1 (hofp X (hof X e)), fun e => (unhide HXP).2 (hofp Y (hof Y e)), ?_, ?_, hp.n1, hp.n2, hstd.1⟩, by push_cast; omega, by have := hstd.2; push_cast; omega, by omega, by push_cast; omega, fun k e => hno k (hof k e), o9.below hb8 (Nat.le_trans (unhide HB7).size (unhide HB8).size) (fun k e => hno k (ho9 k e))⟩
                    · exact hp.s1.step (o59.mono (fun k _ e => .inl e)) (fun k _ e => .inl (e.elim (fun e => .inl (hofp k (hof k e))) (fun e => .inr e)))
                    · exact hp.s2.step (o59.mono (fun k _ e => .inl e)) (fun k _ e => .inl (e.elim (fun e => .inl (hofp k (hof k e))) (fun e => .inr e))))
                  clear hD9 o9 nw9 HCR
                  go_wp2
                  go_round
                  case measure => simp [Go.RowKit.intOf] <;> omega
                  case rel => exact ⟨k + 1, by omega, by simp, unhide HF⟩
            · as_aux_lemma =>
                have HM := hide (mountS_any hV.dat hV.ok hS)
                have HSD := hide hS
                have hne' : ¬ g = gu := fun e => hne e.symm
                clear hV hS hno hbw hne
                go_wp2_with fail
                refine (unhide HM).mono ?_
                rintro e w1 ⟨P, vu, rfl, hp1, lP, lu, b1⟩
                have hy1 := (b1.block Y (lt_of_row (unhide HV).yb)).trans (unhide HV).yb
                have y0 := cell_of_row _ _ 0 _ 83 (0, 0) hy1
                have yl := lt_of_row hy1
                have HGE := hide (fun n => generation_any (hp1.below (Only.drewN (fun _ => False) w1 n).to_below))
                rw [show (mkp m g r nt (Lp.map (fun x : Pv => x.1))).h.gen = g from rfl] at HGE
                have HP1 := hide hp1
                have HLP := hide lP
                have HLU := hide lu
                have HB1 := hide b1
                have HY1 := hide hy1
                clear hp1 lP lu b1 hy1 HM
                go_upto_region 33 with fail
                go_quiet ((go_at_call 40; exact Calls.quiet_of_same (unhide HGE _)))
                have hbq := (Only.drewN (fun _ => False) w1 nq).to_below
                have hb1q := (unhide HB1).trans (hbq.mono (unhide HB1).size)
                have hyq := (hbq.block Y (lt_of_row (unhide HY1))).trans (unhide HY1)
                have hxq := (hb1q.block X (lt_of_row (unhide HV).bx)).trans (unhide HV).bx
                have hpq := (unhide HP1).below hbq
                have hXn : ¬ POf P D vw vl vu X := fun e => by
                  have hx := lt_of_row (unhide HV).bx
                  rcases e with e | e | e
                  · have := unhide HLP; omega
                  · have := unhide HLU _ e; omega
                  · exact (unhide HV).nx e
                have hYn : ¬ POf P D vw vl vu Y := fun e => by
                  have hx := lt_of_row (unhide HV).yb
                  rcases e with e | e | e
                  · have := unhide HLP; omega
                  · have := unhide HLU _ e; omega
                  · exact (unhide HV).ny e
                have hnoP : ∀ k, POf P D vw vl vu k → w.heap.size ≤ k := fun k e => by
                  have hx := (unhide HBW).size
                  rcases e with e | e | e
                  · have := unhide HLP; omega
                  · have := unhide HLU _ e; omega
                  · exact unhide HNO k e
                have hfz : ∀ k, k < wr.heap.size → FZ P D vw vl vu (fun k => k = X ∨ k = Y) k → Of D vw vl k ∨ k = X ∨ k = Y := fun k hk e => by
                  rcases e with e | e
                  · rcases e with e | e | e
                    · have := unhide HLP; omega
                    · have := unhide HLU _ e; omega
                    · exact .inl e
                  · exact .inr e
                generalize w1.drewN nq = w2 at *
                have HQ := hide (show ∃ gs rs nts Ls qs cs, Mt m X Y P D vl vw vu gs rs f a nts Ls qs cs last w w2 ∧ gs ≤ 1 + 429500 * (k : Int) from ⟨g, r, nt, Lp, q, c, ⟨unhide HSD, (unhide HV).n1, hpq, hxq, ⟨_, hyq, rfl⟩, hXn, hYn, (unhide HV).s1.step (Only.of_below hb1q) hfz, hnoP, (unhide HBW).trans (hb1q.mono (unhide HBW).size)⟩, hg⟩)
                clear hbq hb1q hyq hxq hpq y0 yl HB1 HY1 HP1 HGE hXn hYn hnoP hfz HLP HLU HSD HV HNO HBW
                go_upto_region 35 with fail
                obtain ⟨gs, rs, nts, Ls, qs, cs, hM, hgs⟩ := unhide HQ
                have x0 := cell_of_row _ _ 0 _ 83 (0, 0) hM.bx
                have x1 := cell_of_row _ _ 1 _ 83 (0, 0) hM.bx
                have x2 := cell_of_row _ _ 2 _ 83 (0, 0) hM.bx
                have x3 := cell_of_row _ _ 3 _ 83 (0, 0) hM.bx
                have xl := lt_of_row hM.bx
                have HIS := hide (is_any hM.sd.hds nts rfl hM.nl f a qs cs w2 hM.pd (fun W' o => by
                  have := (hM.sp W' (o.mono (fun k _ e => .inl (.inl e)))).2
                  rw [List.length_map]
                  exact this) (by have := hM.sd.few; exact this))
                rw [List.length_map] at HIS
                have HM := hide hM
                clear hM HQ
                go_wp2_with fail
                refine (unhide HIS).mono ?_
                rintro e w3 ⟨rfl, hp3, o3⟩
                have HM3 := hide ((unhide HM).move o3 (fun k e => .inl e) hp3)
                clear hp3 o3 HM HIS x0 x1 x2 x3 xl
                by_cases hkn : k = j
                · have hkn' : (k : Int) = (j : Int) := by omega
                  go_wp2
                  go_ret
                  exact ⟨rfl, (unhide HM3).be⟩
                · have hkn' : ¬ (k : Int) = (j : Int) := by omega
                  have hlt2 : k < j := by omega
                  obtain ⟨ga, oa, ts, cT, ka, kc, es, hgl, hat⟩ := (unhide HAL).at hlt2
                  subst es
                  have hbd := unhide HLL _ (getD_in LL noLif k (by have := unhide HAN; omega))
                  have htl := (unhide HTB) k hlt2
                  generalize LL.getD k noLif = lf at *
                  obtain ⟨T, arm, K⟩ := lf
                  simp only at hbd htl
                  obtain ⟨bd1, bd2, bd3, bd4, bd5⟩ := hbd
                  have t1 : w3.cell? ⟨ga, oa + k * 3 + 1, none⟩ = some (I arm) := (hat.below (unhide HM3).be).c1
                  have tl := Nat.lt_of_lt_of_le hgl (unhide HM3).be.size
                  have hk60 := pkv_lt arm 60 (by omega)
                  have HPA := hide (fun W' => pick_any arm 60 W' (by omega) (by omega) bd1.1 bd1.2)
                  generalize pkv arm 60 = k60 at *
                  have HAR := hide (arm_any (unhide HM3).pd.dat (k60 : Int))
                  rw [show armv (Av last f a) (k60 : Int) = 0 by simp [armv, Av, show ¬ (k60 : Int) < 0 by omega], show (Av last f a).arm (k60 : Int) = Av last k60 a by simp [Ds.arm, Av, show ¬ (k60 : Int) < 0 by omega]] at HAR
                  have HAT := hide hat
                  have HBD := hide (And.intro bd2 bd3)
                  clear hat bd2 bd3
                  go_wp2_with (refine (unhide HPA _).mono ?_; rintro e wa ⟨rfl, hwa⟩; rw [hwa]; clear hwa)
                  refine (unhide HAR).mono ?_
                  rintro e w4 ⟨rfl, hD4, o4⟩
                  have hp3 := (unhide HM3).pd
                  have hpd4 : PD P D (Av last k60 a) (mkp m gs rs nts (Ls.map (·.1))) vw vl vu w4 := ⟨hD4, av_ok (unhide HM3).sd.dl (unhide HM3).sd.d5 hm8 a (by omega) (by omega), (o4.block P hp3.lt (fun e => hp3.neP D (.inl rfl) e.symm)).trans hp3.blk, owns_only hp3.us o4 (fun k hk e => hp3.neU D (.inl rfl) (by rw [← e]; exact hk)), hp3.len⟩
                  have hM4 := (unhide HM3).move o4 (fun k e => .inr (.inr (.inl e))) hpd4
                  have HM4 := hide hM4
                  have hxy4 : ∀ k, k = X ∨ k = Y → k < w4.heap.size := fun k e => by
                    obtain ⟨cy, y1, _⟩ := hM4.yb
                    have h1 := lt_of_row hM4.bx
                    have h2 := lt_of_row y1
                    omega
                  have HXY4 := hide hxy4
                  have HLI := hide (fun (cb : C5) (L : Nat → Bool) (W : World) (hW : W41 m X Y P D vl vw vu w4 gs a T.length cb L W) (h8 : L 8 = false) => lives_any (m := m) (P := P) (D := D) (vw := vw) (vl := vl) (vu := vu) (last := last) (p := mkp m gs rs nts (Ls.map (·.1))) (fun k => (k = X ∨ k = Y) ∨ BP cb L k) gs rs k60 a nts Ls qs cs W hM4.sd hM4.sd.hds rfl hM4.nl (by omega) (hM4.pd.below (hW.pre h8)) (hW.sx h8 hM4.pd hM4.nx hM4.ny) (hM4.sp.step (Only.of_below (hW.pre h8)) (fun k hk e => e.elim .inl (fun e => e.elim .inr (fun e => by
                      rcases e with ⟨e1, e2⟩ | ⟨e1, e2⟩
                      · have := (hW.b1 e1).1; omega
                      · have := (hW.b2 e1).1; omega)))) ts T.length cT T (fun W' o => ((unhide HAT).below (o.below (hM4.be.trans ((hW.pre h8).mono hM4.be.size)) (Nat.le_trans hM4.be.size (hW.pre h8).size) (fun k e => hM4.no k e))).tl) (unhide HBD).1 (by omega) (by omega) ⟨ha0, by omega⟩ arm ka K.length kc)
                  have tl4 := Nat.lt_of_lt_of_le hgl hM4.be.size
                  have HAT4 := hide ((unhide HAT).below hM4.be)
                  clear hD4 o4 hp3 hpd4 hM4 hxy4 t1 tl HAR HM3 HPA
                  go_upto_region 41 with fail
                  refine rls41 D P X ga oa j sc k (m : Int) (.agg #[I gs, I rs, S nts, .slice qs Ls.length cs]) (.agg #[.slice ts T.length cT, I arm, .slice ka K.length kc]) (by kernel_rfl) (by kernel_rfl) (by kernel_rfl) _ _ (by show 186 ≤ Array.size _; simp) rfl rfl rfl rfl rfl rfl (W41 m X Y P D vl vw vu w4 gs a T.length) ⟨(undef, undef, undef, 0, 0), W41.start (unhide HXY4) _⟩ ?_ ?_ ?_ ?_ ?_ ?_ ?_ ?_ ?_ ?_ ?_ ?_ ?_ ?_ ?_ ?_ ?_ ?_
                  · intro i hi cb L W hW
                    simp only [List.mem_cons, List.not_mem_nil, or_false, not_or] at hi
                    exact hW.pass (by omega) (fun e => by omega)
                  · intro cb L W hW _
                    have hx : W.heap[X]? = some (.cells #[I gs, I rs, S nts, .slice qs Ls.length cs] 83 (0, 0)) := by
                      cases e : L 8 with
                      | false => exact ((hW.pre e).block X (lt_of_row (unhide HM4).bx)).trans (unhide HM4).bx
                      | true =>
                        obtain ⟨_, _, _, _, _, _, _, _, _, _, _, _, _, _, _, _, hp⟩ := hW.post e
                        exact (hp.on.block X (lt_of_row (unhide HM4).bx) (unhide HM4).nx).trans (unhide HM4).bx
                    exact s_ldr Tryz.isAgg83 Tryz.sizeOf83 hx [I gs, I rs, S nts, .slice qs Ls.length cs] rfl rfl
                  · exact fun W => s_x70 ga oa j sc k hlt2
                  · intro cb L W hW _ _
                    have hbW : Below w.heap.size w W := by
                      cases e : L 8 with
                      | false => exact (unhide HM4).be.trans ((hW.pre e).mono (unhide HM4).be.size)
                      | true =>
                        obtain ⟨_, _, _, _, _, _, _, _, _, _, _, _, _, _, _, _, hp⟩ := hW.post e
                        exact hp.on.below (unhide HM4).be (unhide HM4).be.size (fun k e => (unhide HM4).no k e)
                    have hl := (unhide HAT).below hbW
                    refine s_lda Tryz.isAgg73 Tryz.sizeOf73 [.slice ts T.length cT, I arm, .slice ka K.length kc] rfl (fun i v hv => ?_)
                    match i, hv with
                    | 0, hv => cases hv; exact hl.c0
                    | 1, hv => cases hv; exact hl.c1
                    | 2, hv => cases hv; exact hl.c2
                  · intro cb L W hW h8 _ _ _ _ _
                    refine (unhide HLI cb L W hW h8).mono ?_
                    rintro e W' ⟨g', r', nt', Lp', q', c', gu', ru', ntu', Lu', qu', cu', d', p', vw', vu', rfl, ho⟩
                    refine ⟨_, fun i hi => ?_, rfl, hW.call h8 (hW.sx h8 (unhide HM4).pd (unhide HM4).nx (unhide HM4).ny) ho⟩
                    unfold vrls41
                    split <;> first | rfl | (rw [h8] at hi; cases hi) | (rw [hW.dp _ (by omega) hi] at h8; cases h8)
                  · exact fun cb L W hW _ h8 => hW.pass (by omega) (fun _ => h8)
                  · exact fun cb W => rfl
                  · exact fun cb L W hW _ h9 => hW.pass (by omega) (fun _ => hW.dp 9 (by omega) h9)
                  · exact fun cb W => rfl
                  · exact fun cb L W hW _ h9 => hW.pass (by omega) (fun _ => hW.dp 9 (by omega) h9)
                  · exact fun cb W => rfl
                  · exact fun cb L W hW _ h9 => hW.pass (by omega) (fun _ => hW.dp 9 (by omega) h9)
                  · intro cb L W hW h13
                    refine ⟨(cb.1, cb.2.1, cb.2.2.1, W.heap.size, cb.2.2.2.2), _, fun i hi => ?_, s_al Tryz.zeroValue83, hW.al1 h13⟩
                    unfold vrls41
                    split <;> first | rfl | (rw [h13] at hi; cases hi)
                  · intro cb L W hW h14
                    refine ⟨(cb.1, cb.2.1, cb.2.2.1, cb.2.2.2.1, W.heap.size), _, fun i hi => ?_, s_al Tryz.zeroValue83, hW.al2 h14⟩
                    unfold vrls41
                    split <;> first | rfl | (rw [h14] at hi; cases hi)
                  · exact fun cb L W hW _ h10 h13 => hW.st1 (hW.dp 10 (by omega) h10) h13
                  · exact fun cb L W hW _ h11 h14 => hW.st2 (hW.dp 11 (by omega) h11) h14
                  · exact fun cb L W hW _ h12 => hW.pass (by omega) (fun _ => hW.dp 12 (by omega) h12)
                  intro cb L W5 hall hW
                  obtain ⟨g', r', nt', Lp', q', c', gu', ru', ntu', Lu', qu', cu', d', p', vw', vu', hp⟩ := hW.post (hall 8 (by omega))
                  obtain ⟨z1, cs1, z2, z3, z4⟩ := hW.b1 (hall 13 (by omega))
                  obtain ⟨y1, cs2, y2, y3, y4⟩ := hW.b2 (hall 14 (by omega))
                  have z5 := z4 (hall 15 (by omega))
                  have y5 := y4 (hall 16 (by omega))
                  have hBb : ∀ k, BP cb L k ↔ k = cb.2.2.2.1 ∨ k = cb.2.2.2.2 := fun k => by
                    unfold BP
                    rw [hall 13 (by omega), hall 14 (by omega)]
                    simp
                  rw [hp.e1] at z5
                  rw [hp.e2] at y5
                  injection z5 with z5
                  injection y5 with y5
                  subst z5 y5
                  have ee1 := hp.e1
                  have ee2 := hp.e2
                  have ee3 := hp.e3
                  obtain ⟨v1, v2, v3, B1, B2⟩ := cb
                  simp only at ee1 ee2 ee3 z1 z2 y1 y2 hBb ⊢
                  subst ee1 ee2 ee3
                  have hM4 := unhide HM4
                  obtain ⟨cy, yb1, yb2⟩ := hM4.yb
                  have hxy4 := unhide HXY4
                  have hxl4 := hxy4 X (.inl rfl)
                  have hyl4 := hxy4 Y (.inr rfl)
                  have hXp : ¬ POf P D vw' vl vu' X := fun e => (hp.po X e).elim hM4.nx (fun q => by omega)
                  have hYp : ¬ POf P D vw' vl vu' Y := fun e => (hp.po Y e).elim hM4.ny (fun q => by omega)
                  have hX5 := (hp.on.block X hxl4 hM4.nx).trans hM4.bx
                  have hY5 := (hp.on.block Y hyl4 hM4.ny).trans yb1
                  have hb5 : Below w.heap.size w W5 := hp.on.below hM4.be hM4.be.size (fun k e => hM4.no k e)
                  have hXY := unhide HXY
                  have oX := setRow_Only W5 X #[I g', I r', S nt', .slice q' Lp'.length c']
                  have hx6 := setRow_row (vs := #[I g', I r', S nt', .slice q' Lp'.length c']) hX5
                  have hy6 := (oX.block Y (lt_of_row hY5) (Ne.symm hXY.2.2)).trans hY5
                  have hB6 := (oX.block B2 (lt_of_row y2) (by omega)).trans y2
                  have hb6 := belowR hb5 hXY.1 #[I g', I r', S nt', .slice q' Lp'.length c']
                  have HP := hide hp
                  have HX5 := hide hX5
                  have HY6 := hide hy6
                  have HX6 := hide hx6
                  have HB6 := hide hb6
                  have HBb := hide hBb
                  have HXP := hide (And.intro hXp hYp)
                  have HCY := hide yb2
                  have HOX := hide oX
                  have HBZ := hide (And.intro z1 y1)
                  have s0 := cell_of_row _ _ 0 _ 83 (0, 0) z2
                  have s1 := cell_of_row _ _ 1 _ 83 (0, 0) z2
                  have s2 := cell_of_row _ _ 2 _ 83 (0, 0) z2
                  have s3 := cell_of_row _ _ 3 _ 83 (0, 0) z2
                  have sl := lt_of_row z2
                  have HR6 := hide hB6
                  clear hall hW z2 z3 z4 y2 y3 y4 hp hM4 yb1 yb2 hxy4 hXp hYp hX5 hY5 hb5 hXY oX hx6 hy6 hB6 hb6 hBb z1 y1 HLI
                  simp only [Act.put, List.setIfInBounds_toArray, List.set_cons_succ, List.set_cons_zero]
                  go_upto_region 43 with (refine wp_st83 rfl (.tmp 21) (.tmp 186) rfl X (by rfl) g' r' nt' (.slice q' Lp'.length c') rfl (by rfl) _ rfl (unhide HX5) ?_; generalize W5.setRow X #[I g', I r', S nt', .slice q' Lp'.length c'] = w6 at *)
                  have s0' := cell_of_row _ _ 0 _ 83 (0, 0) (unhide HR6)
                  have s1' := cell_of_row _ _ 1 _ 83 (0, 0) (unhide HR6)
                  have s2' := cell_of_row _ _ 2 _ 83 (0, 0) (unhide HR6)
                  have s3' := cell_of_row _ _ 3 _ 83 (0, 0) (unhide HR6)
                  have sl' := lt_of_row (unhide HR6)
                  have hXY := unhide HXY
                  have oY := setRow_Only w6 Y #[I gu', I ru', S ntu', .slice qu' Lu'.length cu']
                  have hx7 := (oY.block X (lt_of_row (unhide HX6)) hXY.2.2).trans (unhide HX6)
                  have hy7 := setRow_row (vs := #[I gu', I ru', S ntu', .slice qu' Lu'.length cu']) (unhide HY6)
                  have hb7 := belowR (unhide HB6) hXY.2.1 #[I gu', I ru', S ntu', .slice qu' Lu'.length cu']
                  have o57 : Only (fun k => k = X ∨ k = Y) W5 (w6.setRow Y #[I gu', I ru', S ntu', .slice qu' Lu'.length cu']) := ((unhide HOX).mono (fun k _ e => .inl e)).trans oY (fun k _ e => .inr e)
                  have hp7 := (unhide HP).pd.only o57 (fun k e1 e2 => by
                    rcases e2 with e2 | e2
                    · exact (unhide HXP).1 (e2 ▸ e1)
                    · exact (unhide HXP).2 (e2 ▸ e1))
                  have HX7 := hide hx7
                  have HY7 := hide hy7
                  have HB7 := hide hb7
                  have HO57 := hide o57
                  have HP7 := hide hp7
                  have hat7 := (unhide HAT).below hb7
                  have t2 : (w6.setRow Y #[I gu', I ru', S ntu', .slice qu' Lu'.length cu']).cell? ⟨ga, oa + k * 3 + 2, none⟩ = some (.slice ka K.length kc) := hat7.c2
                  have t2l : ga < (w6.setRow Y #[I gu', I ru', S ntu', .slice qu' Lu'.length cu']).heap.size := Nat.lt_of_lt_of_le hgl hb7.size
                  have HKP := hide (kept2_any hp7.dat hp7.ok ka K.length kc K hat7.kl (unhide HBD).2)
                  clear oY hx7 hy7 hb7 o57 hp7 hat7 hXY s0 s1 s2 s3 sl
                  go_wp2_with (refine wp_st83 rfl (.tmp 22) (.tmp 187) rfl Y (by rfl) gu' ru' ntu' (.slice qu' Lu'.length cu') rfl (by rfl) _ (unhide HCY) (unhide HY6) ?_; generalize w6.setRow Y #[I gu', I ru', S ntu', .slice qu' Lu'.length cu'] = w7 at *)
                  refine (unhide HKP).mono ?_
                  rintro e w8 ⟨V, kk, rfl, hkk, rV, nV, b8⟩
                  have HCR := hide (crashK_any ((unhide HP7).dat.below b8) (unhide HP7).ok V K kk hkk rV)
                  obtain ⟨qv, cv, rfl⟩ := owns_form rV
                  have HB8 := hide b8
                  clear rV nV b8 hkk HKP t2 t2l s0' s1' s2' s3' sl'
                  go_wp2_with fail
                  refine (unhide HCR).mono ?_
                  rintro e w9 ⟨rfl, vw9, st, hD9, o9, nw9⟩
                  have HF := hide (show ∃ vw g r f a nt Lp q c gu ru ntu Lu qu cu last, Hv m X Y D vl vw g r f a nt Lp q c gu ru ntu Lu qu cu last w9 ∧ g ≤ 1 + 429500 * ((k + 1 : Nat) : Int) ∧ gu ≤ 1 + 429500 * ((k + 1 : Nat) : Int) ∧ 0 ≤ a ∧ a ≤ 10 + 4295000 * ((k + 1 : Nat) : Int) ∧ (∀ k, Of D vw vl k → w.heap.size ≤ k) ∧ Below w.heap.size w w9 by
                    have hp := unhide HP
                    have hM4 := unhide HM4
                    have hof : ∀ k, Of D vw9 vl k → Of D vw' vl k := fun k e => by
                      rcases e with e | e | e
                      · exact .inl e
                      · exact .inr (.inl (nw9 k e))
                      · exact .inr (.inr e)
                    have hofp : ∀ k, Of D vw' vl k → POf P D vw' vl vu' k := fun k e => .inr (.inr e)
                    have ho9 : ∀ k, (k = D ∨ vl.ownBlock = some k) → Of D vw' vl k := fun k e => e.elim .inl (fun e => .inr (.inr e))
                    have hno : ∀ k, Of D vw' vl k → w.heap.size ≤ k := fun k e => (hp.po k (hofp k e)).elim (hM4.no k) (fun q => Nat.le_trans hM4.be.size q)
                    have hb8 := (unhide HB7).trans ((unhide HB8).mono (unhide HB7).size)
                    have hX9 := (o9.block X (Nat.lt_of_lt_of_le (lt_of_row (unhide HX7)) (unhide HB8).size) (fun e => (unhide HXP).1 (hofp X (ho9 X e)))).trans (((unhide HB8).block X (lt_of_row (unhide HX7))).trans (unhide HX7))
                    have hY9 := (o9.block Y (Nat.lt_of_lt_of_le (lt_of_row (unhide HY7)) (unhide HB8).size) (fun e => (unhide HXP).2 (hofp Y (ho9 Y e)))).trans (((unhide HB8).block Y (lt_of_row (unhide HY7))).trans (unhide HY7))
                    have o59 : Only (fun k => FZ P D vw' vl vu' (fun k => k = X ∨ k = Y) k) W5 w9 := (((unhide HO57).mono (fun k _ e => .inr e)).trans (Only.of_below (P := fun _ => False) (unhide HB8)) (fun _ _ e => e.elim)).trans o9 (fun k _ e => .inl (hofp k (ho9 k e)))
                    have hstd : (Std m gu' ru' ntu' (Lu'.map (·.1)) (crs d'.last d'.ws st d'.ws.length) ∨ (gu' ≠ g' ∧ Std m g' r' nt' (Lp'.map (·.1)) (crs d'.last d'.ws st d'.ws.length))) ∧ gu' ≤ g' + 1 := by
                      rcases hp.ou with ⟨⟨e1, e2, e3, e4, e5, e6⟩, hs⟩ | ⟨e1, hs⟩
                      · refine ⟨.inl ?_, by omega⟩
                        rw [e1, e2, e3, e4]
                        exact hs st
                      · rcases hs st with q | q
                        · exact ⟨.inr ⟨by omega, q⟩, by omega⟩
                        · exact ⟨.inl q, by omega⟩
                    have hdl : (crs d'.last d'.ws st d'.ws.length).length = m ∧ ∀ x ∈ crs d'.last d'.ws st d'.ws.length, x.length = 512 := by
                      rcases hstd.1 with q | ⟨_, q⟩
                      · exact ⟨q.dl, q.d5⟩
                      · exact ⟨q.dl, q.d5⟩
                    have hab := hp.ab
                    have hgb := hp.gb
                    refine ⟨vw9, g', r', 0, d'.acts, nt', Lp', q', c', gu', ru', ntu', Lu', qu', cu', crs d'.last d'.ws st d'.ws.length, ⟨hD9, av_ok hdl.1 hdl.2 hm8 d'.acts (by omega) (by omega), hX9, hY9, fun e => (unhide HXP).1 (hofp X (hof X e)), fun e => (unhide HXP).2 (hofp Y (hof Y e)), ?_, ?_, hp.n1, hp.n2, hstd.1⟩, by push_cast; omega, by have := hstd.2; push_cast; omega, by omega, by push_cast; omega, fun k e => hno k (hof k e), o9.below hb8 (Nat.le_trans (unhide HB7).size (unhide HB8).size) (fun k e => hno k (ho9 k e))⟩
                    · exact hp.s1.step (o59.mono (fun k _ e => .inl e)) (fun k _ e => .inl (e.elim (fun e => .inl (hofp k (hof k e))) (fun e => .inr e)))
                    · exact hp.s2.step (o59.mono (fun k _ e => .inl e)) (fun k _ e => .inl (e.elim (fun e => .inl (hofp k (hof k e))) (fun e => .inr e))))
                  clear hD9 o9 nw9 HCR
                  go_wp2
                  go_round
                  case measure => simp [Go.RowKit.intOf] <;> omega
                  case rel => exact ⟨k + 1, by omega, by simp, unhide HF⟩
    · have hgt : (2147483647 : Int) < mo := by omega
      have HB := hide hbw
      clear hbw hmo2
      by_cases hlt : j < n
      · have hlt' : (j : Int) < (n : Int) := by omega
        go_wp2
        go_ret
        exact ⟨rfl, unhide HB⟩
      · have hlt' : ¬ (j : Int) < (n : Int) := by omega
        go_wp2
        go_ret
        exact ⟨rfl, unhide HB⟩
end Go.Proofs.YtjopnhhdemfniaaGreatDoor
namespace Go.Proofs.YtjopnhhdemfniaaGreatDoor
open Go.RowKit
set_option maxHeartbeats 4000000
set_option maxRecDepth 8000
/-- Too much was handed in to be kept: nothing is asked. -/
theorem pagerLasts_many (blocks begins : Int) (la : Option Addr) (ln lc : Nat) (sa : Option Addr) (n sc : Nat) (w : World) (hln : 2147483647 < ln) (hln2 : ln ≤ 9223372036854775807) :
    Calls Tryz.prog 7 #[I blocks, I begins, .slice la ln lc, .slice sa n sc] w fun e w' => e = .returned (.bool true) ∧ Below w.heap.size w w' := by
  have hmi : min (ln : Int) 2147483647 = 2147483647 := by omega
  have h9 : (2147483647 : Int) < (ln : Int) := by omega
  have HAD := hide (add2_any 100000 17179869176 w (by omega) (by omega) (by omega) (by omega))
  rw [show addv 100000 17179869176 = 2147483648 from rfl] at HAD
  clear hln hln2
  go_enter Tryz.func7, Tryz.ntmps7
  go_wp2_with (refine (unhide HAD).mono ?_; rintro e wa ⟨rfl, hwa⟩; rw [hwa]; clear hwa)
  go_loopw [9, 10] (fun v i wr => v = .int .i64 2147483648 ∧ i = .int .i64 0 ∧ wr = w) (fun _ _ _ => 0)
  case atStart => exact ⟨rfl, rfl, rfl⟩
  case round =>
    obtain ⟨rfl, rfl, hwr⟩ := hrel
    subst hwr
    by_cases h0 : 0 < n
    · have h0' : (0 : Int) < (n : Int) := by omega
      go_wp2
      go_ret
      exact ⟨rfl, Below.refl _ _⟩
    · have h0' : ¬ (0 : Int) < (n : Int) := by omega
      go_wp2
      go_ret
      exact ⟨rfl, Below.refl _ _⟩
theorem pagerLasts_all (blocks begins : Int) (la : Option Addr) (ln lc : Nat) (L0 : List Int) (sa : Option Addr) (n sc : Nat) (LL : List Lif) (w : World) (hL : Ins w la ln L0) (hA : Als w sa n LL) (hb : i64 blocks) (hbg : i64 begins) (hL0 : ∀ z ∈ L0, -9223372036854775808 ≤ z ∧ z ≤ 9223372036854775807) (hLL : ∀ x ∈ LL, i64 x.arm ∧ (∀ t ∈ x.T, (-9223372036854775808 ≤ t.1 ∧ t.1 ≤ 9223372036854775807) ∧ -9223372036854775808 ≤ t.2 ∧ t.2 ≤ 9223372036854775807) ∧ (∀ z ∈ x.K, -9223372036854775808 ≤ z ∧ z ≤ 9223372036854775807) ∧ x.T.length ≤ 9223372036854775807 ∧ x.K.length ≤ 9223372036854775807) (hln : ln ≤ 9223372036854775807) (hn : n ≤ 9223372036854775807) :
    Calls Tryz.prog 7 #[I blocks, I begins, .slice la ln lc, .slice sa n sc] w fun e w' => e = .returned (.bool true) ∧ Below w.heap.size w w' := by
  by_cases h : ln ≤ 2147483647
  · exact pagerLasts_any blocks begins la ln lc L0 sa n sc LL w hL hA hb hbg hL0 hLL h hn
  · exact pagerLasts_many blocks begins la ln lc sa n sc w (by omega) hln
end Go.Proofs.YtjopnhhdemfniaaGreatDoor
