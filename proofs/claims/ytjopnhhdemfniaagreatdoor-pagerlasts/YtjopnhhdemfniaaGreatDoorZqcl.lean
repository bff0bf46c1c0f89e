import Derived.Test.YtjopnhhdemfniaaGreatDoorZqci
import Derived.Test.YtjopnhhdemfniaaGreatDoorZrgqf
import Derived.Test.YtjopnhhdemfniaaGreatDoorZqbn
import Derived.BigQuiet
/- What stands from turn to turn of a life. -/
namespace Go.Proofs.YtjopnhhdemfniaaGreatDoor
open Go.RowKit
set_option maxHeartbeats 8000000
set_option maxRecDepth 8000
def FZ (P D : Nat) (vw vl vu : Value) (Sx : Nat → Prop) (k : Nat) : Prop := POf P D vw vl vu k ∨ Sx k
structure Lf (m : Nat) (Sx : Nat → Prop) (X P D : Nat) (vl vw vu : Value) (g root f a : Int) (nt : Bs) (Lp : List Pv) (q : Option Addr) (c : Nat) (last : List Bs) (p : Pr) (W : World) : Prop where
  sd : Std m g root nt (Lp.map (·.1)) last
  hd : Hds m g root (Lp.map (·.1)) [] last p
  hn : p.h.note = nt
  nl : nt.length = 16
  f0 : 0 ≤ f
  pd : PD P D (Av last f a) p vw vl vu W
  st : W.heap[X]? = some (.cells #[I g, I root, S nt, .slice q Lp.length c] 83 (0, 0))
  sx : Sx X
  sn : ∀ k, Sx k → k < W.heap.size ∧ ¬ POf P D vw vl vu k
  sp : Frm (FZ P D vw vl vu Sx) W (fun W' => Sps W' q Lp)
variable {m X P D : Nat} {Sx : Nat → Prop} {vl vw vu : Value} {g root f a : Int} {nt : Bs} {Lp : List Pv} {q : Option Addr} {c : Nat} {last : List Bs} {p : Pr} {W : World}
theorem Lf.below (h : Lf m Sx X P D vl vw vu g root f a nt Lp q c last p W) {W' : World} (b : Below W.heap.size W W') : Lf m Sx X P D vl vw vu g root f a nt Lp q c last p W' :=
  ⟨h.sd, h.hd, h.hn, h.nl, h.f0, h.pd.below b, (b.block _ (lt_of_row h.st)).trans h.st, h.sx, fun k hk => ⟨Nat.lt_of_lt_of_le (h.sn k hk).1 b.size, (h.sn k hk).2⟩, h.sp.below b⟩
theorem Lf.old (h : Lf m Sx X P D vl vw vu g root f a nt Lp q c last p W) : ∀ k, FZ P D vw vl vu Sx k → k < W.heap.size := fun k e => e.elim (h.pd.old k) (fun e => (h.sn k e).1)
theorem Lf.move (h : Lf m Sx X P D vl vw vu g root f a nt Lp q c last p W) {W' : World} (o : Only (POf P D vw vl vu) W W') (hp : PD P D (Av last f a) p vw vl vu W') : Lf m Sx X P D vl vw vu g root f a nt Lp q c last p W' :=
  ⟨h.sd, h.hd, h.hn, h.nl, h.f0, hp, (o.block _ (lt_of_row h.st) (h.sn X h.sx).2).trans h.st, h.sx, fun k hk => ⟨Nat.lt_of_lt_of_le (h.sn k hk).1 o.size, (h.sn k hk).2⟩, h.sp.only o (fun _ r => .inl r)⟩
theorem NxOut.mono {w W W' : World} {gen root how cc : Int} {fr : List Int} {Lp : List Pv} {rt : Int} {Lf Ln : List Pv} {G : List Int} {vf vn vg : Value} (h : NxOut w gen root how cc fr Lp rt Lf Ln G vf vn vg W) (b : Below W.heap.size W W') : NxOut w gen root how cc fr Lp rt Lf Ln G vf vn vg W' :=
  ⟨h.hf, h.hrt, h.hg, h.perm, h.srt, owns_below h.rf b, h.nf, owns_below h.rn b, h.nn, owns_below h.rg b, h.ng, fun x hx => (h.lk x hx).imp id (fun ⟨r, k⟩ => ⟨owns_below r b, k⟩), h.bel.trans (b.mono h.bel.size)⟩
theorem NxOut.base {w0 w W : World} {gen root how cc : Int} {fr : List Int} {Lp : List Pv} {rt : Int} {Lf Ln : List Pv} {G : List Int} {vf vn vg : Value} (h : NxOut w gen root how cc fr Lp rt Lf Ln G vf vn vg W) (b : Below w0.heap.size w0 w) : NxOut w0 gen root how cc fr Lp rt Lf Ln G vf vn vg W :=
  ⟨h.hf, h.hrt, h.hg, h.perm, h.srt, h.rf, fun k hk => Nat.le_trans b.size (h.nf k hk), h.rn, fun k hk => Nat.le_trans b.size (h.nn k hk), h.rg, fun k hk => Nat.le_trans b.size (h.ng k hk), fun x hx => (h.lk x hx).imp id (fun ⟨r, k⟩ => ⟨r, fun j hj => Nat.le_trans b.size (k j hj)⟩), b.trans (h.bel.mono b.size)⟩
/-- A box of its own is filled. -/
theorem NxOut.box {w W : World} {gen root how cc : Int} {fr : List Int} {Lp : List Pv} {rt : Int} {Lf Ln : List Pv} {G : List Int} {vf vn vg : Value} {z : Nat} {cs : Array Value} (h : NxOut w gen root how cc fr Lp rt Lf Ln G vf vn vg W) (hz : w.heap.size ≤ z) (hb : W.heap[z]? = some (.cells cs 83 (0, 0))) (vs : Array Value) : NxOut w gen root how cc fr Lp rt Lf Ln G vf vn vg (W.setRow z vs) := by
  have o := setRow_Only W z vs
  refine ⟨h.hf, h.hrt, h.hg, h.perm, h.srt, owns_only h.rf o (row_ne h.rf hb (by decide)), h.nf, owns_only h.rn o (row_ne h.rn hb (by decide)), h.nn, owns_only h.rg o (row_ne h.rg hb (by decide)), h.ng, fun x hx => (h.lk x hx).imp id (fun ⟨r, k⟩ => ⟨owns_only r o (row_ne r hb (by decide)), k⟩), belowR h.bel hz vs⟩
/-- While a turn's next is made, and laid into a box. -/
structure W10 (w0 : World) (gen root how cc : Int) (fr : List Int) (Lp : List Pv) (cb : Value × Value × Value × Nat) (L : Nat → Bool) (W : World) : Prop where
  be : Below w0.heap.size w0 W
  out : L 12 = true → ∃ rt Lf Ln G vn, cb.1 = .agg #[I (gen + 1), I rt, S (nte cc), vn] ∧ vn.oneCell' = true ∧ NxOut w0 gen root how cc fr Lp rt Lf Ln G cb.2.1 vn cb.2.2.1 W
  box : L 17 = true → w0.heap.size ≤ cb.2.2.2 ∧ ∃ cs, W.heap[cb.2.2.2]? = some (.cells cs 83 (0, 0)) ∧ cs.size = 4 ∧ (L 18 = true → cb.1 = .agg cs)
  ord : L 18 = true → L 12 = true ∧ L 17 = true
  dp : ∀ i, (i = 13 ∨ i = 14 ∨ i = 15 ∨ i = 16 ∨ i = 19 ∨ i = 20) → L i = true → L 12 = true
theorem st83 {W : World} {Z : Nat} {x0 x1 : Int} {s : Bs} {q : Option Addr} {n c : Nat} {cs : Array Value} (h : W.heap[Z]? = some (.cells cs 83 (0, 0))) (hs : cs.size = 4) : (Instr.storeAt 83 (.pointer (some ⟨Z, 0, none⟩)) (.agg #[I x0, I x1, S s, .slice q n c])).run Tryz.prog W = .ok () (W.setRow Z #[I x0, I x1, S s, .slice q n c]) := by
  have := s_sta (o := 0) Tryz.sizeOf83 h (.agg #[I x0, I x1, S s, .slice q n c]) rfl (by omega) (by simp [Value.cells, Value.oneCell'])
  rw [this]
  congr 2
  have e : cs.toList.drop (0 + 4) = [] := by rw [List.drop_eq_nil_iff]; simp [hs]
  rw [e]
  simp [Value.cells]
section
variable {w0 : World} {gen root how cc : Int} {fr : List Int} {Lp : List Pv} {cb : Value × Value × Value × Nat} {L : Nat → Bool} {W : World}
theorem W10.start (w0 : World) (gen root how cc : Int) (fr : List Int) (Lp : List Pv) (cb : Value × Value × Value × Nat) : W10 w0 gen root how cc fr Lp cb (fun _ => false) w0.drew :=
  ⟨(Below.refl _ _).drew, (fun h => nomatch h), (fun h => nomatch h), (fun h => nomatch h), (fun _ _ h => nomatch h)⟩
theorem W10.pass (h : W10 w0 gen root how cc fr Lp cb L W) {i : Nat} (h1 : i ≠ 12) (h2 : i ≠ 17) (h3 : i ≠ 18) (h4 : (i = 13 ∨ i = 14 ∨ i = 15 ∨ i = 16 ∨ i = 19 ∨ i = 20) → L 12 = true) : W10 w0 gen root how cc fr Lp cb (upd L i) W := by
  refine ⟨h.be, ?_, ?_, ?_, fun j hj hl => ?_⟩
  · rw [upd_ne (Ne.symm h1)]; exact h.out
  · rw [upd_ne (Ne.symm h2), upd_ne (Ne.symm h3)]; exact h.box
  · rw [upd_ne (Ne.symm h1), upd_ne (Ne.symm h2), upd_ne (Ne.symm h3)]; exact h.ord
  · rw [upd_ne (Ne.symm h1)]
    by_cases e : j = i
    · subst e; exact h4 hj
    · rw [upd_ne e] at hl; exact h.dp j hj hl
theorem W10.call (h : W10 w0 gen root how cc fr Lp cb L W) (h12 : L 12 = false) {W' : World} {rt : Int} {Lf Ln : List Pv} {G : List Int} {vf vn vg : Value} (hN : NxOut W gen root how cc fr Lp rt Lf Ln G vf vn vg W') : W10 w0 gen root how cc fr Lp (.agg #[I (gen + 1), I rt, S (nte cc), vn], vf, vg, cb.2.2.2) (upd L 12) W' := by
  obtain ⟨q, c, e⟩ := owns_form hN.rn
  refine ⟨h.be.trans (hN.bel.mono h.be.size), fun _ => ⟨rt, Lf, Ln, G, vn, rfl, by rw [e]; rfl, hN.base h.be⟩, fun h17 => ?_, fun h18 => ?_, fun j hj hl => upd_self _ _⟩
  · rw [upd_ne (by decide)] at h17
    obtain ⟨b1, cs, b2, b3, _⟩ := h.box h17
    refine ⟨b1, cs, (hN.bel.block _ (lt_of_row b2)).trans b2, b3, fun h18 => ?_⟩
    rw [upd_ne (by decide)] at h18
    rw [(h.ord h18).1] at h12
    cases h12
  · rw [upd_ne (by decide)] at h18
    rw [(h.ord h18).1] at h12
    cases h12
theorem W10.al (h : W10 w0 gen root how cc fr Lp cb L W) (h17 : L 17 = false) : W10 w0 gen root how cc fr Lp (cb.1, cb.2.1, cb.2.2.1, W.heap.size) (upd L 17) (W.alloc (.cells #[I 0, I 0, .string ⟨#[]⟩, .slice none 0 0] 83)) := by
  have b := (Below.refl W.heap.size W).alloc (Nat.le_refl _) (.cells #[I 0, I 0, .string ⟨#[]⟩, .slice none 0 0] 83)
  refine ⟨h.be.trans (b.mono h.be.size), fun h12 => ?_, fun _ => ⟨h.be.size, _, heap_alloc_new _ _, rfl, fun h18 => ?_⟩, fun h18 => ?_, fun j hj hl => ?_⟩
  · rw [upd_ne (by decide)] at h12
    obtain ⟨rt, Lf, Ln, G, vn, e1, e2, e3⟩ := h.out h12
    exact ⟨rt, Lf, Ln, G, vn, e1, e2, e3.mono b⟩
  · rw [upd_ne (by decide)] at h18
    rw [(h.ord h18).2] at h17
    cases h17
  · rw [upd_ne (by decide)] at h18
    rw [(h.ord h18).2] at h17
    cases h17
  · rw [upd_ne (by decide)]
    exact h.dp j hj (by rwa [upd_ne (by omega)] at hl)
theorem W10.st (h : W10 w0 gen root how cc fr Lp cb L W) (h12 : L 12 = true) (h17 : L 17 = true) : ∃ W', (Instr.storeAt 83 (.pointer (some ⟨cb.2.2.2, 0, none⟩)) cb.1).run Tryz.prog W = .ok () W' ∧ W10 w0 gen root how cc fr Lp cb (upd L 18) W' := by
  obtain ⟨rt, Lf, Ln, G, vn, e1, e2, e3⟩ := h.out h12
  obtain ⟨b1, cs, b2, b3, _⟩ := h.box h17
  obtain ⟨qn, cn, en⟩ := owns_form e3.rn
  have hst : (Instr.storeAt 83 (.pointer (some ⟨cb.2.2.2, 0, none⟩)) cb.1).run Tryz.prog W = .ok () (W.setRow cb.2.2.2 #[I (gen + 1), I rt, S (nte cc), vn]) := by
    rw [e1, en]
    exact st83 b2 b3
  refine ⟨_, hst, belowR h.be b1 _, fun _ => ⟨rt, Lf, Ln, G, vn, e1, e2, e3.box b1 b2 _⟩, fun _ => ⟨b1, _, setRow_row b2, rfl, fun _ => e1⟩, fun _ => ⟨by rw [upd_ne (by decide)]; exact h12, by rw [upd_ne (by decide)]; exact h17⟩, fun j hj hl => by rw [upd_ne (by decide)]; exact h12⟩
end
theorem out83 {fn : Func} {p1 p2 q1 : Tmp} {W : World} {ac : Act} {Z1 Z2 : Nat} {c1 c2 : Array Value} {v : Value} {Post : Ending → World → Prop} (hf : fn.results = #[.cell p1 83, .cell p2 83, .tmp q1]) (hd : ac.defers = []) (h1 : ac.tmps.getD p1 undef = .pointer (some ⟨Z1, 0, none⟩)) (h2 : ac.tmps.getD p2 undef = .pointer (some ⟨Z2, 0, none⟩)) (hv : ac.tmps.getD q1 undef = v) (k1 : W.heap[Z1]? = some (.cells c1 83 (0, 0))) (n1 : c1.size = 4) (k2 : W.heap[Z2]? = some (.cells c2 83 (0, 0))) (n2 : c2.size = 4) (hp : Post (.returned (.tuple #[.agg c1, .agg c2, v])) W) : bodyPost Tryz.prog fn Post .ret ac W := by
  subst hv
  refine bodyPost_ret ?_ hd hp
  have h1' : ac.tmps[p1]?.getD undef = .pointer (some ⟨Z1, 0, none⟩) := by simpa using h1
  have h2' : ac.tmps[p2]?.getD undef = .pointer (some ⟨Z2, 0, none⟩) := by simpa using h2
  simp only [results, hf]
  simp [h1', h2', asAddr, lv_row Tryz.isAgg83 Tryz.sizeOf83 k1 n1, lv_row Tryz.isAgg83 Tryz.sizeOf83 k2 n2]
theorem Lf.args (h : Lf m Sx X P D vl vw vu g root f a nt Lp q c last p W) {W2 W3 : World} {how cc rt : Int} {fr : List Int} {Lf Ln : List Pv} {G : List Int} {vn : Value} {ad a2 : Option Addr} {cap cap2 : Nat}
    (hN : NxOut W g root how cc fr Lp rt Lf Ln G (.slice ad Lf.length cap) vn (.slice a2 G.length cap2) W2) (b3 : Below W2.heap.size W2 W3) : ∀ W', Only (POf P D vw vl vu) W3 W' → Pgs W' ad Lf.length (Lf.map (·.1)) ∧ Ins W' a2 G.length G := by
  intro W' o
  have hnl : ∀ k, W.heap.size ≤ k → ¬ POf P D vw vl vu k := fun k h1 e => by have := h.pd.old k e; omega
  have o' : Only (POf P D vw vl vu) W2 W' := (Only.of_below b3).trans o (fun _ _ r => r)
  have r1 := owns_only hN.rf o' (fun k hk => hnl k (hN.nf k hk))
  have r2 := owns_only hN.rg o' (fun k hk => hnl k (hN.ng k hk))
  refine ⟨pgs_of (row_cells (q := ad) (n := Lf.length) (c := cap) rfl r1) (fun x hx => ?_), ins_of r2⟩
  exact ln_only o' ((hN.lk x hx).imp id (fun ⟨r, hk⟩ => ⟨r, fun k hb => hnl k (hk k hb)⟩))
theorem Lf.commit (h : Lf m Sx X P D vl vw vu g root f a nt Lp q c last p W) {W2 W3 : World} {how cc rt : Int} {fr : List Int} {Lf Ln : List Pv} {G : List Int} {vn : Value} {ad a2 : Option Addr} {cap cap2 : Nat} (k : Nat) (h1 : 1 ≤ k) (h5 : k ≤ 5) (hk : k ≤ (fre m (Lp.map (·.1)) []).length) (hfr : fr = (fre m (Lp.map (·.1)) []).take k) (hgen : g ≤ 1000000000000) (hal : 0 ≤ a ∧ a ≤ 99999999999999)
    (hN : NxOut W g root how cc fr Lp rt Lf Ln G (.slice ad Lf.length cap) vn (.slice a2 G.length cap2) W2) (b3 : Below W2.heap.size W2 W3) :
    ∃ er d' p', Calls Tryz.prog 51 #[ptr P, .slice ad Lf.length cap, I rt, S (nte cc), .slice a2 G.length cap2] W3 (fun e w' => e = .returned (I er) ∧ PTo P D d' p' vw vl vu W3 w') ∧
      ((er = 0 ∧ ∃ last' f' a', d' = Av last' f' a' ∧ Hds m (g + 1) rt (Ln.map (·.1)) [] last' p' ∧ Std m (g + 1) rt (nte cc) (Ln.map (·.1)) last' ∧ p'.h.note = nte cc ∧ 0 ≤ f' ∧ a ≤ a' ∧ a' ≤ a + 10) ∨
       (er = 2 ∧ d'.dead = true ∧ p'.doubt = true ∧ a ≤ d'.acts ∧ d'.acts ≤ a + 10 ∧ ∀ st, Std m g root nt (Lp.map (·.1)) (crs d'.last d'.ws st d'.ws.length) ∨ Std m (g + 1) rt (nte cc) (Ln.map (·.1)) (crs d'.last d'.ws st d'.ws.length))) := by
  have hm8 := h.hd.m8
  have hperm : (Ln.map (·.1)).Perm (if gns how (Lp.map (·.1)) = [] then frs how fr root cc (g + 1) ++ Lp.map (·.1) else frs how fr root cc (g + 1)) := by
    have := hN.perm.map (fun x : Pv => x.1)
    rw [hN.hg] at this
    split
    · rename_i e
      rw [if_pos e, List.map_append, hN.hf] at this
      exact this
    · rename_i e
      rw [if_neg e, hN.hf] at this
      exact this
  have hout := h.sd.turn h.hd a f h.f0 how cc k h1 h5 hk hgen (Ln.map (·.1)) fr hfr rt hN.hrt hperm (List.pairwise_map.2 hN.srt)
  obtain ⟨last1, p1, hc, hd1, _⟩ := h.hd.turn a how cc k h1 h5 hk hgen (Ln.map (·.1)) fr hfr rt hN.hrt hperm (List.pairwise_map.2 hN.srt)
  have hfre := cmr_fresh hc
  have hfl : fr.length = k := by rw [hfr, List.length_take]; omega
  have hl5 : Lf.length ≤ 5 := by
    have e : Lf.length = (frs how fr root cc (g + 1)).length := by rw [← hN.hf, List.length_map]
    rw [e]
    by_cases q : pkv how 5 ≤ 3
    · have := congrArg List.length (frs_num how fr root cc (g + 1) q (by omega))
      rw [List.length_map] at this
      omega
    · rw [frs_high _ _ _ _ _ q]
      simp
  rw [← hN.hf] at hfre hout
  rw [← hN.hg] at hout
  rw [List.all_eq_true] at hfre
  have hfx : ∀ x ∈ Lf.map (fun x : Pv => x.1), x.links.length ≤ 1000 ∧ x.body.length ≤ 1000 ∧ ∀ z ∈ x.links, z < 4096 := fun x hx => by
    have := hfre x hx
    unfold Pg.fresh at this
    simp only [Bool.and_eq_true, decide_eq_true_eq, List.all_eq_true] at this
    obtain ⟨⟨⟨⟨q1, _⟩, _⟩, _⟩, q2⟩ := this
    refine ⟨by omega, by omega, fun z hz => ?_⟩
    have := q2 z hz
    unfold isPg at this
    simp only [Bool.and_eq_true, decide_eq_true_eq] at this
    exact this.2
  have hgm : ∀ z ∈ G, z < 4096 := fun z hz => by
    have hne : ¬ gns how (Lp.map (·.1)) = [] := fun e => by rw [hN.hg, e] at hz; cases hz
    rw [hN.hg, gns_ne hne] at hz
    obtain ⟨x, hx, rfl⟩ := List.mem_map.1 hz
    have := h.hd.pg x (.inl hx)
    omega
  have hfew := h.sd.few
  rw [List.length_map] at hfew
  have hgl : G.length ≤ 4096 := by
    by_cases e : gns how (Lp.map (·.1)) = []
    · rw [hN.hg, e]; simp
    · rw [hN.hg, gns_ne e, List.length_map, List.length_map]
      exact hfew
  have hrt : rt < 4096 := by
    rcases hd1.rt with e | ⟨x, hx, e⟩
    · omega
    · have := hd1.pg x (.inl hx)
      omega
  have hpd3 : PD P D (Av last f a) p vw vl vu W3 := (h.pd.below hN.bel).below b3
  have hpr := h.hd.prok a
  have key := commit_any hpd3 (⟨hpr.may, hpr.blocks, hpr.len, hpr.low0, hpr.low1⟩ : Prok (Av last f a) p) ad a2 Lf.length cap G.length cap2 (Lf.map (·.1)) rt (nte cc) G (h.args hN b3) (fun x hx => by have := hfx x hx; omega) (fun x hx z hz => by have := (hfx x hx).2.2 z hz; omega) (fun z hz => by have := hgm z hz; omega) (by omega) (by rw [nte_len]; omega) hal (by omega) (by omega)
  refine ⟨_, _, _, key, ?_⟩
  rcases hout with ⟨last', f', a', p', e, h1, h2, h3, h4, h5, h6⟩ | ⟨d', e, h1, h2, h3, h4⟩
  · rw [show cmr (Av last f a) p (Lf.map (fun x : Pv => x.1)) rt (nte cc) G = (0, ⟨[], last', f', false, a'⟩, p') from e]
    exact .inl ⟨rfl, last', f', a', rfl, h1, h2, h3, h4, h5, h6⟩
  · rw [show cmr (Av last f a) p (Lf.map (fun x : Pv => x.1)) rt (nte cc) G = (2, d', { p with doubt := true }) from e]
    exact .inr ⟨rfl, h1, rfl, h2, h3, h4⟩
/-- What a commit, whatever its answer, leaves in memory. -/
theorem Lf.mem (h : Lf m Sx X P D vl vw vu g root f a nt Lp q c last p W) {W2 W3 W4 : World} {how cc rt : Int} {fr : List Int} {Lf Ln : List Pv} {G : List Int} {vf vg : Value} {qn : Option Addr} {cn : Nat} {d' : Ds} {p' : Pr}
    (hN : NxOut W g root how cc fr Lp rt Lf Ln G vf (.slice qn Ln.length cn) vg W2) (b3 : Below W2.heap.size W2 W3) (ht : PTo P D d' p' vw vl vu W3 W4) :
    ∃ vw' vu', PD P D d' p' vw' vl vu' W4 ∧ Only (FZ P D vw vl vu Sx) W W4 ∧ (∀ k, FZ P D vw' vl vu' Sx k → FZ P D vw vl vu Sx k ∨ W3.heap.size ≤ k) ∧ (∀ k, Sx k → k < W4.heap.size ∧ ¬ POf P D vw' vl vu' k) ∧ Frm (FZ P D vw' vl vu' Sx) W4 (fun W' => Sps W' q Lp) ∧ Frm (FZ P D vw' vl vu' Sx) W4 (fun W' => Sps W' qn Ln) ∧ Only (POf P D vw vl vu) W3 W4 := by
  obtain ⟨vw', vu', hp, o4, hw', hu'⟩ := ht
  have s2 := hN.bel.size
  have s3 := b3.size
  have s4 := o4.size
  have hold := h.old
  have hpo : ∀ k, POf P D vw' vl vu' k → POf P D vw vl vu k ∨ W3.heap.size ≤ k := by
    rintro k (e | e | e)
    · exact .inl (.inl e)
    · rcases hu' k e with e | e
      · exact .inl (.inr (.inl e))
      · exact .inr e
    · rcases e with e | e | e
      · exact .inl (.inr (.inr (.inl e)))
      · rcases hw' k e with e | e
        · exact .inl (.inr (.inr (.inr (.inl e))))
        · exact .inr e
      · exact .inl (.inr (.inr (.inr (.inr e))))
  have hfy : ∀ k, FZ P D vw' vl vu' Sx k → FZ P D vw vl vu Sx k ∨ W3.heap.size ≤ k := by
    rintro k (e | e)
    · exact (hpo k e).imp .inl id
    · exact .inl (.inr e)
  have o24 : Only (FZ P D vw vl vu Sx) W2 W4 := (Only.of_below b3).trans (o4.mono (Q := FZ P D vw vl vu Sx) (fun _ _ r => .inl r)) (fun _ _ r => r)
  have o14 : Only (FZ P D vw vl vu Sx) W W4 := (Only.of_below hN.bel).trans o24 (fun _ _ r => r)
  have hst : ∀ k, k < W.heap.size → FZ P D vw' vl vu' Sx k → FZ P D vw vl vu Sx k := fun k hk e => (hfy k e).elim id (fun e => by omega)
  refine ⟨vw', vu', hp, o14, hfy, fun k hk => ⟨by have := (h.sn k hk).1; omega, fun e => (hpo k e).elim (h.sn k hk).2 (fun e => by have := (h.sn k hk).1; omega)⟩, h.sp.step o14 hst, ?_, o4⟩
  intro W' o'
  have o1' : Only (FZ P D vw vl vu Sx) W W' := o14.trans o' hst
  have o2' : Only (fun k => FZ P D vw vl vu Sx k ∨ FZ P D vw' vl vu' Sx k) W2 W' := (o24.mono (fun _ _ r => .inl r)).trans o' (fun _ _ r => .inr r)
  have hnl : ∀ k, W.heap.size ≤ k → k < W2.heap.size → ¬ (FZ P D vw vl vu Sx k ∨ FZ P D vw' vl vu' Sx k) := fun k h1 h2 e => by
    have n1 : ¬ FZ P D vw vl vu Sx k := fun e => by have := hold k e; omega
    exact e.elim n1 (fun e => (hfy k e).elim n1 (fun e => by omega))
  have rn' := owns_only hN.rn o2' (fun k hk => hnl k (hN.nn k hk) (owns_blk hN.rn k hk))
  have hcl := row_cells (q := qn) (n := Ln.length) (c := cn) rfl rn'
  refine ⟨hcl, pgs_of hcl (fun x hx => ?_)⟩
  have hx' := hN.perm.mem_iff.1 hx
  have hx'' : x ∈ Lf ∨ x ∈ Lp := by
    split at hx'
    · exact List.mem_append.1 hx'
    · exact .inl hx'
  rcases hx'' with e | e
  · exact ln_only o2' ((hN.lk x e).imp id (fun ⟨r, hk⟩ => ⟨r, fun k hb => hnl k (hk k hb) (owns_blk r k hb)⟩))
  · exact sps_lnk (h.sp W' o1') x e
end Go.Proofs.YtjopnhhdemfniaaGreatDoor
/- The law's lives. -/
namespace Go.Proofs.YtjopnhhdemfniaaGreatDoor
open Go.RowKit
set_option maxHeartbeats 16000000
set_option maxRecDepth 8000
def Tls (w : World) (a : Option Addr) (n : Nat) (T : List (Int × Int)) : Prop :=
  n = T.length ∧ (0 < n → ∃ g o, a = some ⟨g, o, none⟩ ∧ ∀ j, j < n → w.cell? ⟨g, o + j * 2, none⟩ = some (I (T.getD j (0, 0)).1) ∧ w.cell? ⟨g, o + j * 2 + 1, none⟩ = some (I (T.getD j (0, 0)).2))
theorem Tls.at {w : World} {a : Option Addr} {n : Nat} {T : List (Int × Int)} (h : Tls w a n T) {j : Nat} (hj : j < n) : ∃ g o, a = some ⟨g, o, none⟩ ∧ g < w.heap.size ∧ w.cell? ⟨g, o + j * 2, none⟩ = some (I (T.getD j (0, 0)).1) ∧ w.cell? ⟨g, o + j * 2 + 1, none⟩ = some (I (T.getD j (0, 0)).2) := by
  obtain ⟨g, o, e, hc⟩ := h.2 (by omega)
  exact ⟨g, o, e, blk_lt (hc j hj).1, (hc j hj).1, (hc j hj).2⟩
variable {m : Nat} {gen root : Int} {ps : List Pg} {last : List Bs} {p : Pr} {P D : Nat} {vw vl vu : Value}
theorem Hds.nextsA (h : Hds m gen root ps [] last p) {W : World} {f a : Int} (hD : PD P D (Av last f a) p vw vl vu W) (k : Nat) (hk : k ≤ 1000000) :
    Calls Tryz.prog 48 #[ptr P, I (k : Int)] W fun e w' => ∃ V, e = .returned (.tuple #[V, I (if (fre m ps []).length < k then ([], 92) else ((fre m ps []).take k, (0 : Int))).2]) ∧ InsOut (if (fre m ps []).length < k then ([], 92) else ((fre m ps []).take k, (0 : Int))).1 W V w' ∧ PD P D (Av last f a) p vw vl vu w' ∧ Only (fun k => k = P) W w' := by
  have := next_any hD (k : Int) (by omega)
  rw [show Go.Proofs.YtjopnhhdemfniaaGreatDoor.nxt (Av last f a) p (k : Int) = Go.Proofs.YtjopnhhdemfniaaGreatDoor.nxt (Lv [] last a) p (k : Int) from rfl, h.nxt a k, if_neg (show ¬ (k : Int) < 0 by omega), h.askA] at this
  exact this
/-- What a life comes to. -/
structure LvO (m P D : Nat) (vl vw vu : Value) (Sx : Nat → Prop) (w : World) (g a : Int) (nT : Nat) (g' r' : Int) (nt' : Bs) (Lp' : List Pv) (q' : Option Addr) (c' : Nat) (gu ru : Int) (ntu : Bs) (Lu : List Pv) (qu : Option Addr) (cu : Nat) (d' : Ds) (p' : Pr) (vw' vu' : Value) (w' : World) : Prop where
  pd : PD P D d' p' vw' vl vu' w'
  on : Only (POf P D vw vl vu) w w'
  po : ∀ k, POf P D vw' vl vu' k → POf P D vw vl vu k ∨ w.heap.size ≤ k
  s1 : Frm (FZ P D vw' vl vu' Sx) w' (fun W' => Sps W' q' Lp')
  s2 : Frm (FZ P D vw' vl vu' Sx) w' (fun W' => Sps W' qu Lu)
  gb : g' ≤ g + nT
  ab : a ≤ d'.acts ∧ d'.acts ≤ a + 10 * nT
  n1 : nt'.length = 16
  n2 : ntu.length = 16
  ou : ((gu = g' ∧ ru = r' ∧ ntu = nt' ∧ Lu = Lp' ∧ qu = q' ∧ cu = c') ∧ ∀ st, Std m g' r' nt' (Lp'.map (·.1)) (crs d'.last d'.ws st d'.ws.length)) ∨ (gu = g' + 1 ∧ ∀ st, Std m g' r' nt' (Lp'.map (·.1)) (crs d'.last d'.ws st d'.ws.length) ∨ Std m gu ru ntu (Lu.map (·.1)) (crs d'.last d'.ws st d'.ws.length))
def LvP (m P D : Nat) (vl vw vu : Value) (Sx : Nat → Prop) (w : World) (g a : Int) (nT : Nat) (e : Ending) (w' : World) : Prop := ∃ g' r' nt' Lp' q' c' gu ru ntu Lu qu cu d' p' vw' vu', e = .returned (.tuple #[.agg #[I g', I r', S nt', .slice q' Lp'.length c'], .agg #[I gu, I ru, S ntu, .slice qu Lu.length cu], .bool true]) ∧ LvO m P D vl vw vu Sx w g a nT g' r' nt' Lp' q' c' gu ru ntu Lu qu cu d' p' vw' vu' w'
theorem LvP.mk {m P D : Nat} {vl vw vu : Value} {Sx : Nat → Prop} {w : World} {g a : Int} {nT : Nat} {w' : World} {g' r' : Int} {nt' : Bs} {Lp' : List Pv} {q' : Option Addr} {c' : Nat} {gu ru : Int} {ntu : Bs} {Lu : List Pv} {qu : Option Addr} {cu : Nat} {d' : Ds} {p' : Pr} {vw' vu' : Value} (h : LvO m P D vl vw vu Sx w g a nT g' r' nt' Lp' q' c' gu ru ntu Lu qu cu d' p' vw' vu' w') : LvP m P D vl vw vu Sx w g a nT (.returned (.tuple #[.agg #[I g', I r', S nt', .slice q' Lp'.length c'], .agg #[I gu, I ru, S ntu, .slice qu Lu.length cu], .bool true])) w' := ⟨_, _, _, _, _, _, _, _, _, _, _, _, _, _, _, _, rfl, h⟩
def z83 : Array Value := #[I 0, I 0, .string ⟨#[]⟩, .slice none 0 0]
/-- Two boxes that a drawn region fills. -/
structure W22 (w0 : World) (A B ia ib : Nat) (va vb : Array Value) (L : Nat → Bool) (W : World) : Prop where
  on : Only (fun k => k = A ∨ k = B) w0 W
  ra : W.heap[A]? = some (.cells (if L ia = true then va else z83) 83 (0, 0))
  rb : W.heap[B]? = some (.cells (if L ib = true then vb else z83) 83 (0, 0))
theorem W22.pure {w0 : World} {A B ia ib : Nat} {va vb : Array Value} {L : Nat → Bool} {W : World} (h : W22 w0 A B ia ib va vb L W) {i : Nat} (h1 : i ≠ ia) (h2 : i ≠ ib) : W22 w0 A B ia ib va vb (upd L i) W :=
  ⟨h.on, by rw [upd_ne (Ne.symm h1)]; exact h.ra, by rw [upd_ne (Ne.symm h2)]; exact h.rb⟩
theorem W22.sa {w0 : World} {A B ia ib : Nat} {x0 x1 : Int} {s : Bs} {q : Option Addr} {n c : Nat} {vb : Array Value} {L : Nat → Bool} {W : World} (h : W22 w0 A B ia ib #[I x0, I x1, S s, .slice q n c] vb L W) (hl : L ia = false) (hAB : A ≠ B) (hi : ia ≠ ib) : ∃ W', (Instr.storeAt 83 (.pointer (some ⟨A, 0, none⟩)) (.agg #[I x0, I x1, S s, .slice q n c])).run Tryz.prog W = .ok () W' ∧ W22 w0 A B ia ib #[I x0, I x1, S s, .slice q n c] vb (upd L ia) W' := by
  have ra := h.ra
  rw [hl, if_neg (by simp)] at ra
  refine ⟨_, st83 ra rfl, h.on.trans (setRow_Only _ _ _) (fun _ _ e => .inl e), by rw [upd_self, if_pos rfl]; exact setRow_row ra, ?_⟩
  rw [upd_ne (Ne.symm hi)]
  exact ((setRow_Only W A _).block B (lt_of_row h.rb) (Ne.symm hAB)).trans h.rb
theorem W22.sb {w0 : World} {A B ia ib : Nat} {x0 x1 : Int} {s : Bs} {q : Option Addr} {n c : Nat} {va : Array Value} {L : Nat → Bool} {W : World} (h : W22 w0 A B ia ib va #[I x0, I x1, S s, .slice q n c] L W) (hl : L ib = false) (hAB : A ≠ B) (hi : ia ≠ ib) : ∃ W', (Instr.storeAt 83 (.pointer (some ⟨B, 0, none⟩)) (.agg #[I x0, I x1, S s, .slice q n c])).run Tryz.prog W = .ok () W' ∧ W22 w0 A B ia ib va #[I x0, I x1, S s, .slice q n c] (upd L ib) W' := by
  have rb := h.rb
  rw [hl, if_neg (by simp)] at rb
  refine ⟨_, st83 rb rfl, h.on.trans (setRow_Only _ _ _) (fun _ _ e => .inr e), ?_, by rw [upd_self, if_pos rfl]; exact setRow_row rb⟩
  rw [upd_ne hi]
  exact ((setRow_Only W B _).block A (lt_of_row h.ra) hAB).trans h.ra
theorem s_x71 (g o n cap k : Nat) (hk : k < n) {w : World} : (Instr.indexAt 71 (.slice (some ⟨g, o, none⟩) n cap) (.int .i64 (k : Int))).run Tryz.prog w = .ok (.pointer (some ⟨g, o + k * 2, none⟩)) w := by
  have h1 : (k : Int) < (n : Int) := by omega
  have u := Tryz.underlying71
  have z := Tryz.sizeOf92
  simp [go_sem, u, z, h1]
theorem lives_any (Sx : Nat → Prop) (g r f a : Int) (nt : Bs) (Lp : List Pv) (q : Option Addr) (c : Nat) (w : World) (sd : Std m g r nt (Lp.map (·.1)) last) (hd : Hds m g r (Lp.map (·.1)) [] last p) (hn : p.h.note = nt) (nl : nt.length = 16) (f0 : 0 ≤ f) (pd : PD P D (Av last f a) p vw vl vu w) (hs : ∀ k, Sx k → k < w.heap.size ∧ ¬ POf P D vw vl vu k) (sp : Frm (FZ P D vw vl vu Sx) w (fun W => Sps W q Lp))
    (ts : Option Addr) (nT cT : Nat) (T : List (Int × Int)) (hT : Frm (POf P D vw vl vu) w (fun W => Tls W ts nT T)) (hTb : ∀ t ∈ T, (-9223372036854775808 ≤ t.1 ∧ t.1 ≤ 9223372036854775807) ∧ -9223372036854775808 ≤ t.2 ∧ t.2 ≤ 9223372036854775807) (hnT : nT ≤ 1000000) (hg : g + nT ≤ 100000000000) (ha : 0 ≤ a ∧ a + 10 * nT ≤ 10000000000000) (arm : Int) (ka : Option Addr) (kn kc : Nat) :
    Calls Tryz.prog 42 #[ptr D, ptr P, .agg #[I g, I r, S nt, .slice q Lp.length c], .agg #[.slice ts nT cT, I arm, .slice ka kn kc], I (m : Int)] w (LvP m P D vl vw vu Sx w g a nT) := by
  have k0 := heap_alloc_new w (.cells #[I g, I r, S nt, .slice q Lp.length c] 83)
  have b0 := (Below.refl w.heap.size w).alloc (Nat.le_refl _) (.cells #[I g, I r, S nt, .slice q Lp.length c] 83)
  have z0 : (w.alloc (.cells #[I g, I r, S nt, .slice q Lp.length c] 83)).heap.size = w.heap.size + 1 := by simp
  have k1 := heap_alloc_new (w.alloc (.cells #[I g, I r, S nt, .slice q Lp.length c] 83)) (.cells #[.slice ts nT cT, I arm, .slice ka kn kc] 73)
  have k01 := (heap_alloc_old _ (.cells #[.slice ts nT cT, I arm, .slice ka kn kc] 73) (lt_of_row k0)).trans k0
  have b1 := b0.alloc (by omega) (.cells #[.slice ts nT cT, I arm, .slice ka kn kc] 73)
  rw [z0] at k1
  generalize hw1 : (w.alloc (.cells #[I g, I r, S nt, .slice q Lp.length c] 83)).alloc (.cells #[.slice ts nT cT, I arm, .slice ka kn kc] 73) = w1 at *
  have z1 : w1.heap.size = w.heap.size + 2 := by rw [← hw1]; simp
  have k2 := heap_alloc_new w1 (.cells #[I 0, I 0, .string ⟨#[]⟩, .slice none 0 0] 83)
  have k02 := (heap_alloc_old _ (.cells #[I 0, I 0, .string ⟨#[]⟩, .slice none 0 0] 83) (lt_of_row k01)).trans k01
  have k12 := (heap_alloc_old _ (.cells #[I 0, I 0, .string ⟨#[]⟩, .slice none 0 0] 83) (lt_of_row k1)).trans k1
  have b2 := b1.alloc (by omega) (.cells #[I 0, I 0, .string ⟨#[]⟩, .slice none 0 0] 83)
  rw [z1] at k2
  generalize hw2 : w1.alloc (.cells #[I 0, I 0, .string ⟨#[]⟩, .slice none 0 0] 83) = w2 at *
  have z2 : w2.heap.size = w.heap.size + 3 := by rw [← hw2]; simp [z1]
  have k3 := heap_alloc_new w2 (.cells #[I 0, I 0, .string ⟨#[]⟩, .slice none 0 0] 83)
  have k03 := (heap_alloc_old _ (.cells #[I 0, I 0, .string ⟨#[]⟩, .slice none 0 0] 83) (lt_of_row k02)).trans k02
  have k13 := (heap_alloc_old _ (.cells #[I 0, I 0, .string ⟨#[]⟩, .slice none 0 0] 83) (lt_of_row k12)).trans k12
  have k23 := (heap_alloc_old _ (.cells #[I 0, I 0, .string ⟨#[]⟩, .slice none 0 0] 83) (lt_of_row k2)).trans k2
  have b3 := b2.alloc (by omega) (.cells #[I 0, I 0, .string ⟨#[]⟩, .slice none 0 0] 83)
  rw [z2] at k3
  generalize hw3 : w2.alloc (.cells #[I 0, I 0, .string ⟨#[]⟩, .slice none 0 0] 83) = w3 at *
  have z3 : w3.heap.size = w.heap.size + 4 := by rw [← hw3]; simp [z2]
  obtain ⟨X, hX⟩ : ∃ X, X = w.heap.size := ⟨_, rfl⟩
  have hold := pd.old
  have hL0 : Lf m (fun k => Sx k ∨ k = X ∨ k = X + 2 ∨ k = X + 3) X P D vl vw vu g r f a nt Lp q c last p w3 := by
    refine ⟨sd, hd, hn, nl, f0, pd.below b3, by rw [hX]; exact k03, .inr (.inl rfl), fun k hk => ?_, ?_⟩
    · rcases hk with e | e
      · have := (hs k e).1; exact ⟨by omega, (hs k e).2⟩
      · exact ⟨by omega, fun q => by have := hold k q; omega⟩
    · exact sp.step (Only.of_below b3) (fun k hk e => e.elim .inl (fun e => e.elim .inr (fun e => by omega)))
  have HL0 := hide hL0
  have HB3 := hide b3
  have HK1 := hide k13
  have HKA := hide k23
  have HKB := hide k3
  have HT := hide hT
  have HTB := hide hTb
  have HOL := hide hold
  have HS := hide hs
  rw [← hX] at HK1 HKA HKB z3
  have HTL := hide hT.here.1
  have HZ1 := hide z1
  have HZ2 := hide z2
  clear k0 b0 z0 k1 k01 b1 z1 k2 k02 k12 b2 z2 k3 k03 k13 k23 b3 hL0 hT hTb hold hs sd hd hn nl f0 pd sp
  go_enter Tryz.func42, Tryz.ntmps42
  go_wp2
  rw [unhide HZ1, unhide HZ2, ← hX]
  have HXE := hide hX
  have HOLX := hide (show ∀ k, POf P D vw vl vu k → k < X by rw [hX]; exact unhide HOL)
  have HSX := hide (show ∀ k, Sx k → k < X ∧ ¬ POf P D vw vl vu k by rw [hX]; exact unhide HS)
  clear hX HZ1 HZ2 HOL HS
  go_loopw [13] (fun i wr => ∃ j : Nat, j ≤ nT ∧ i = .int .i64 j ∧ ∃ g1 r1 f1 a1 nt1 Lp1 q1 c1 last1 p1 vw1 vu1, Lf m (fun k => Sx k ∨ k = X ∨ k = X + 2 ∨ k = X + 3) X P D vl vw1 vu1 g1 r1 f1 a1 nt1 Lp1 q1 c1 last1 p1 wr ∧ g1 ≤ g + j ∧ a ≤ a1 ∧ a1 ≤ a + 10 * j ∧ Only (fun k => POf P D vw vl vu k ∨ k = X) w3 wr ∧ (∀ k, POf P D vw1 vl vu1 k → POf P D vw vl vu k ∨ w3.heap.size ≤ k)) (fun i _ => nT - (Go.RowKit.intOf i).toNat)
  case atStart => exact ⟨0, by omega, rfl, g, r, f, a, nt, Lp, q, c, last, p, vw, vu, unhide HL0, by omega, by omega, by omega, Only.refl _ _, fun k e => .inl e⟩
  case round =>
    obtain ⟨j, hj, rfl, g1, r1, f1, a1, nt1, Lp1, q1, c1, last1, p1, vw1, vu1, hL, hg1, ha1, ha2, ho, hpo⟩ := hrel
    have hXl : X < w3.heap.size := by omega
    have hnY : ¬ (POf P D vw vl vu (X + 1) ∨ X + 1 = X) := fun e => e.elim (fun e => by have := unhide HOLX _ e; omega) (fun e => by omega)
    have hnA : ¬ (POf P D vw vl vu (X + 2) ∨ X + 2 = X) := fun e => e.elim (fun e => by have := unhide HOLX _ e; omega) (fun e => by omega)
    have hnB : ¬ (POf P D vw vl vu (X + 3) ∨ X + 3 = X) := fun e => e.elim (fun e => by have := unhide HOLX _ e; omega) (fun e => by omega)
    have hy := (ho.block (X + 1) (lt_of_row (unhide HK1)) hnY).trans (unhide HK1)
    have hA := (ho.block (X + 2) (lt_of_row (unhide HKA)) hnA).trans (unhide HKA)
    have hB := (ho.block (X + 3) (lt_of_row (unhide HKB)) hnB).trans (unhide HKB)
    have y0 := cell_of_row _ _ 0 _ 73 (0, 0) hy
    have yl := lt_of_row hy
    have hw : Only (POf P D vw vl vu) w wr := (Only.of_below (unhide HB3)).trans ho (fun k hk e => e.elim id (fun e => by have := unhide HXE; omega))
    have HY := hide hy
    have HA := hide hA
    have HB := hide hB
    have HO := hide ho
    have HPO := hide hpo
    have HW := hide hw
    have HL := hide hL
    clear hy hA hB ho hpo hL hnY hnA hnB HL0
    by_cases hlt : j < nT
    · have hlt' : (j : Int) < (nT : Int) := by omega
      obtain ⟨gt, ot, et, hgt, t0, t1⟩ := (unhide HT wr hw).at hlt
      subst et
      have htb := unhide HTB _ (getD_in T (0, 0) j (by have := unhide HTL; omega))
      generalize hTj : T.getD j (0, 0) = t at *
      have HTJ := hide hTj
      clear hTj
      obtain ⟨how, many⟩ := t
      simp only at t0 t1 htb
      have hk5 := pkv_lt many 5 (by omega)
      have HPK := hide (fun W' => pick_any many 5 W' (by omega) (by omega) htb.2.1 htb.2.2)
      generalize pkv many 5 = k0 at *
      obtain ⟨k, hk⟩ : ∃ k, k = 1 + k0 := ⟨_, rfl⟩
      have hkc : (1 : Int) + (k0 : Int) = ((k : Nat) : Int) := by omega
      have hk1 : 1 ≤ k ∧ k ≤ 5 := by omega
      have HNX := hide ((unhide HL).hd.nextsA (unhide HL).pd k (by omega))
      have HFE := hide (unhide HL).hd.free
      obtain ⟨fr0, hfr0⟩ : ∃ fr0, fre m (Lp1.map (fun x : Pv => x.1)) [] = fr0 := ⟨_, rfl⟩
      rw [hfr0] at HNX HFE
      have HFR0 := hide hfr0
      have HTC := hide (And.intro t0 t1)
      clear hfr0 hk hw
      by_cases hfl : fr0.length < k
      · rw [if_pos hfl] at HNX
        simp only at HNX
        have hgq : decide ((k : Int) ≤ (fr0.length : Int)) = false := by simp; omega
        clear t0
        go_wp2_with (refine (unhide HPK _).mono ?_; rintro e wa ⟨rfl, hwa⟩; rw [hwa]; clear hwa)
        refine (unhide HNX).mono ?_
        rintro e w4 ⟨V, rfl, _, hp1, o1⟩
        have o1' : Only (POf P D vw1 vl vu1) wr w4 := o1.mono (fun _ _ e => .inl e)
        have HL4 := hide ((unhide HL).move o1' hp1)
        have HO4 := hide ((unhide HO).trans o1 (fun k hk e => (unhide HPO k (.inl e)).elim .inl (fun q => by omega)))
        have hPX : P ≠ X + 1 := fun e => (unhide HPO P (.inl rfl)).elim (fun q => by have := unhide HOLX _ q; omega) (fun q => by omega)
        have hy4 := (o1.block _ (lt_of_row (unhide HY)) (Ne.symm hPX)).trans (unhide HY)
        have y0' := cell_of_row _ _ 0 _ 73 (0, 0) hy4
        have yl' := lt_of_row hy4
        have hw4 : Only (POf P D vw vl vu) w w4 := (unhide HW).trans o1 (fun k hk e => (unhide HPO k (.inl e)).elim id (fun q => by have := unhide HXE; omega))
        have HFR := hide (fun n => free_any (hp1.below (Only.drewN (fun _ => False) w4 n).to_below))
        rw [unhide HFE] at HFR
        obtain ⟨gt', ot', et', hgt', t0', t1'⟩ := (unhide HT w4 hw4).at hlt
        cases et'
        rw [unhide HTJ] at t0' t1'
        clear o1 o1' hp1 HNX hy4 HFE hPX y0 yl t1 t0' hw4 hgt
        generalize fr0.length = F at *
        go_wp2_with fail
        go_quiet (first | (go_at_call 49; exact Calls.quiet_of_same (unhide HFR _)) | (go_at_call 18; exact Calls.quiet_of_same (unhide HPK _)))
        go_wp2
        go_round
        case measure => simp [Go.RowKit.intOf] <;> omega
        case rel => exact ⟨j + 1, by omega, by simp, g1, r1, f1, a1, nt1, Lp1, q1, c1, last1, p1, vw1, vu1, (unhide HL4).below (Only.drewN (fun _ => False) w4 _).to_below, by omega, by omega, by omega, (unhide HO4).trans (Only.drewN _ w4 _) (fun _ _ r => r), unhide HPO⟩
      · rw [if_neg hfl] at HNX
        simp only at HNX
        clear t0
        go_wp2_with (refine (unhide HPK _).mono ?_; rintro e wa ⟨rfl, hwa⟩; rw [hwa]; clear hwa)
        refine (unhide HNX).mono ?_
        rintro e w4 ⟨V, rfl, hV, hp1, o1⟩
        have o1' : Only (POf P D vw1 vl vu1) wr w4 := o1.mono (fun _ _ e => .inl e)
        have hL4 := (unhide HL).move o1' hp1
        have hfl1 : (fr0.take k).length = k := by rw [List.length_take]; omega
        obtain ⟨fr, hfr⟩ : ∃ fr, fr0.take k = fr := ⟨_, rfl⟩
        rw [hfr] at hV hfl1
        obtain ⟨fa, fc, rfl⟩ := owns_form hV.1
        have HFI := hide hV.1
        have HO4 := hide ((unhide HO).trans o1 (fun k hk e => (unhide HPO k (.inl e)).elim .inl (fun q => by omega)))
        have hPX : P ≠ X + 1 := fun e => (unhide HPO P (.inl rfl)).elim (fun q => by have := unhide HOLX _ q; omega) (fun q => by omega)
        have HY4 := hide ((o1.block _ (lt_of_row (unhide HY)) (Ne.symm hPX)).trans (unhide HY))
        have hw4 : Only (POf P D vw vl vu) w w4 := (unhide HW).trans o1 (fun k hk e => (unhide HPO k (.inl e)).elim id (fun q => by have := unhide HXE; omega))
        obtain ⟨gt', ot', et', hgt', t0', t1'⟩ := (unhide HT w4 hw4).at hlt
        cases et'
        rw [unhide HTJ] at t0' t1'
        have HTC4 := hide (And.intro hgt' (And.intro t0' t1'))
        have HL4 := hide hL4
        have HSZ := hide o1.size
        have HA4 := hide ((o1'.block _ (lt_of_row (unhide HA)) ((unhide HL).sn (X + 2) (.inr (.inr (.inl rfl)))).2).trans (unhide HA))
        have HB4 := hide ((o1'.block _ (lt_of_row (unhide HB)) ((unhide HL).sn (X + 3) (.inr (.inr (.inr rfl)))).2).trans (unhide HB))
        have HW4 := hide hw4
        have HFR := hide hfr
        have HFL := hide hfl
        have HFL1 := hide hfl1
        have HLN := hide (fun (W : World) (b : Below w4.heap.size w4 W) => lnext_any g1 r1 how many ((j : Int) + 7 * g1) nt1 q1 c1 Lp1 fa fc fr W (hL4.sp W (Only.of_below b)) (ins_of (owns_below hV.1 b)) (by omega) (by omega) (by have := hL4.sd.few; rw [List.length_map] at this; omega) ⟨by have := hL4.sd.gn; omega, by omega⟩ ⟨by have := hL4.sd.gn; omega, by omega⟩ htb.1 (fun x hx => by
          obtain ⟨q0, c0, e0, _⟩ := sps_lnk (hL4.sp W (Only.of_below b)) x hx
          rw [e0]; rfl))
        clear o1 o1' hp1 hV HNX hfr hfl hfl1 HFE hPX y0 yl t1 t0' t1' hw4 hgt' hgt hL4
        go_upto_region 10 with fail
        refine rlw10 X (X + 1) nT cT j gt ot (some ⟨gt, ot, none⟩) g1 (.agg #[I g1, I r1, S nt1, .slice q1 Lp1.length c1]) (.agg #[I how, I many]) (.slice fa fr.length fc) (by kernel_rfl) (by kernel_rfl) (by kernel_rfl) _ _ (by show 79 ≤ Array.size _; simp) rfl rfl rfl rfl (W10 w4 g1 r1 how ((j : Int) + 7 * g1) fr Lp1) ⟨(undef, undef, undef, 0), W10.start _ _ _ _ _ _ _ _⟩ ?_ ?_ ?_ ?_ ?_ ?_ ?_ ?_ ?_ ?_ ?_ ?_ ?_ ?_ ?_ ?_ ?_ ?_ ?_ ?_ ?_
        · intro i hi cb L W hW
          simp only [List.mem_cons, List.not_mem_nil, or_false, not_or] at hi
          exact hW.pass (by omega) (by omega) (by omega) (fun e => by omega)
        · intro cb L W hW _
          exact s_ldr Tryz.isAgg83 Tryz.sizeOf83 ((hW.be.block X (lt_of_row (unhide HL4).st)).trans (unhide HL4).st) [I g1, I r1, S nt1, .slice q1 Lp1.length c1] rfl rfl
        · intro cb L W hW _ _
          exact s_ld Tryz.isAgg71 (cell_of_row _ _ 0 _ 73 (0, 0) ((hW.be.block _ (lt_of_row (unhide HY4))).trans (unhide HY4)))
        · exact fun W => s_x71 gt ot nT cT j hlt
        · intro cb L W hW _ _
          obtain ⟨e1, e2, e3⟩ := unhide HTC4
          refine s_lda Tryz.isAgg92 Tryz.sizeOf92 [I how, I many] rfl (fun i v hv => ?_)
          match i, hv with
          | 0, hv => cases hv; exact (hW.be.cell e1).trans e2
          | 1, hv => cases hv; exact (hW.be.cell e1).trans e3
        · intro cb L W hW _ _
          exact s_ld Tryz.isAgg3 (cell_of_row _ _ 0 _ 83 (0, 0) ((hW.be.block X (lt_of_row (unhide HL4).st)).trans (unhide HL4).st))
        · exact fun W => s_mul _ _ _ _ (by have := (unhide HL4).sd.gn; omega) (by omega)
        · exact fun W => s_add _ _ _ _ (by have := (unhide HL4).sd.gn; omega) (by omega)
        · intro cb L W hW h12 _ _ _ _
          refine (unhide HLN W hW.be).mono ?_
          rintro e W' ⟨rt, Lf, Ln, G, vf, vn, vg, rfl, hN⟩
          refine ⟨_, fun i hi => ?_, rfl, hW.call h12 hN⟩
          unfold vrlw10
          split <;> first | rfl | (rw [h12] at hi; cases hi) | (rw [hW.dp _ (by omega) hi] at h12; cases h12)
        · exact fun cb L W hW _ h12 => hW.pass (by omega) (by omega) (by omega) (fun _ => h12)
        · exact fun cb W => rfl
        · exact fun cb L W hW _ h13 => hW.pass (by omega) (by omega) (by omega) (fun _ => hW.dp 13 (by omega) h13)
        · exact fun cb W => rfl
        · exact fun cb L W hW _ h13 => hW.pass (by omega) (by omega) (by omega) (fun _ => hW.dp 13 (by omega) h13)
        · exact fun cb W => rfl
        · exact fun cb L W hW _ h13 => hW.pass (by omega) (by omega) (by omega) (fun _ => hW.dp 13 (by omega) h13)
        · intro cb L W hW h17
          refine ⟨(cb.1, cb.2.1, cb.2.2.1, W.heap.size), _, fun i hi => ?_, s_al Tryz.zeroValue83, hW.al h17⟩
          unfold vrlw10
          split <;> first | rfl | (rw [h17] at hi; cases hi)
        · exact fun cb L W hW _ h14 h17 => hW.st (hW.dp 14 (by omega) h14) h17
        · exact fun cb L W hW _ h15 => hW.pass (by omega) (by omega) (by omega) (fun _ => hW.dp 15 (by omega) h15)
        · exact fun cb L W hW _ h16 => hW.pass (by omega) (by omega) (by omega) (fun _ => hW.dp 16 (by omega) h16)
        intro cb L W5 hall hW
        obtain ⟨rt, Lfr, Ln, G, vn, e1, e2, hN⟩ := hW.out (hall 12 (by omega))
        obtain ⟨zb1, cs, zb2, zb3, zb4⟩ := hW.box (hall 17 (by omega))
        have zb5 := zb4 (hall 18 (by omega))
        obtain ⟨cb1, cb2, cb3, Zb⟩ := cb
        simp only at e1 hN zb1 zb2 zb5 ⊢
        rw [e1] at zb5
        injection zb5 with zb5
        subst zb5
        obtain ⟨ad, cap, rfl⟩ := owns_form hN.rf
        obtain ⟨qn, cn, rfl⟩ := owns_form hN.rn
        obtain ⟨a2, cap2, rfl⟩ := owns_form hN.rg
        subst e1
        obtain ⟨er, d', p', hC, hout⟩ := (unhide HL4).commit k hk1.1 hk1.2 (by rw [unhide HFR0]; have := unhide HFL; omega) (by rw [unhide HFR0]; exact (unhide HFR).symm) (by omega) (by omega) hN (Below.refl _ _)
        have hb5 := hW.be
        have hnl16 := nte_len ((j : Int) + 7 * g1)
        have hx5 := zb2
        have hX5 := (hb5.block X (lt_of_row (unhide HL4).st)).trans (unhide HL4).st
        have HA5 := hide ((hb5.block _ (lt_of_row (unhide HA4))).trans (unhide HA4))
        have HB5 := hide ((hb5.block _ (lt_of_row (unhide HB4))).trans (unhide HB4))
        have hnZ : ¬ POf P D vw1 vl vu1 Zb := fun e => by have := (unhide HL4).pd.old _ e; omega
        have x1 := cell_of_row _ _ 1 _ 83 (0, 0) hx5
        have x2 := cell_of_row _ _ 2 _ 83 (0, 0) hx5
        have xl := lt_of_row hx5
        have HC := hide hC
        have HN := hide hN
        have HX5 := hide hX5
        have HXB := hide hx5
        have HNZ := hide hnZ
        have HB5b := hide hb5
        have HOUT := hide hout
        have HNL := hide hnl16
        have HZ1 := hide zb1
        clear hC hN hX5 hx5 hnZ hb5 hout zb2 zb3 zb4 hW hall e2 HLN HFI hnl16 zb1
        generalize nte ((j : Int) + 7 * g1) = nc at *
        simp only [Act.put, List.setIfInBounds_toArray, List.set_cons_succ, List.set_cons_zero]
        have hout := unhide HOUT
        clear HOUT
        rcases hout with ⟨rfl, last2, f2, a2', rfl, hd2, sd2, hn2, f02, aa1, aa2⟩ | ⟨rfl, hdead, hdoubt, aa1, aa2, hst⟩
        · have HD2 := hide hd2
          have HSD2 := hide sd2
          have HN2 := hide hn2
          clear hd2 sd2 hn2
          go_wp2_with fail
          refine (unhide HC).mono ?_
          rintro e w6 ⟨rfl, ht⟩
          obtain ⟨vw2, vu2, pd6, o46, hfy, hsn, fm1, fm2, o56⟩ := (unhide HL4).mem (unhide HN) (Below.refl _ _) ht
          have hs45 := (unhide HB5b).size
          have hs4 := unhide HSZ
          have hs3 := (unhide HO).size
          have hpo2 : ∀ k, POf P D vw2 vl vu2 k → POf P D vw vl vu k ∨ w3.heap.size ≤ k := fun k e => by
            rcases hfy k (.inl e) with q | q
            · rcases q with q | q
              · exact unhide HPO k q
              · exact absurd e (hsn k q).2
            · right; omega
          have hx6 := (o56.block Zb (lt_of_row (unhide HXB)) (unhide HNZ)).trans (unhide HXB)
          have hX6 := (o56.block X (lt_of_row (unhide HX5)) ((unhide HL4).sn X (.inr (.inl rfl))).2).trans (unhide HX5)
          have hL7 : Lf m (fun k => Sx k ∨ k = X ∨ k = X + 2 ∨ k = X + 3) X P D vl vw2 vu2 (g1 + 1) rt f2 a2' nc Ln qn cn last2 p' (w6.setRow X #[I (g1 + 1), I rt, S nc, .slice qn Ln.length cn]) := by
            have oX := setRow_Only w6 X #[I (g1 + 1), I rt, S nc, .slice qn Ln.length cn]
            refine ⟨unhide HSD2, unhide HD2, unhide HN2, unhide HNL, f02, pd6.only oX (fun k e1 e2 => (hsn X (.inr (.inl rfl))).2 (e2 ▸ e1)), setRow_row hX6, .inr (.inl rfl), fun k hk => ⟨Nat.lt_of_lt_of_le (hsn k hk).1 oX.size, (hsn k hk).2⟩, fm2.step (oX.mono (fun k _ e => .inr (.inr (.inl e)))) (fun _ _ e => e)⟩
          have HIS := hide (is_any hL7.hd nc hL7.hn (unhide HNL) f2 a2' qn cn _ hL7.pd (fun W' o => by
            have := (hL7.sp W' (o.mono (fun k _ e => .inl (.inl e)))).2
            rw [List.length_map]
            exact this) (by have := hL7.sd.few; exact this))
          rw [List.length_map] at HIS
          have HX6 := hide hX6
          have z0 := cell_of_row _ _ 0 _ 83 (0, 0) hx6
          have z1 := cell_of_row _ _ 1 _ 83 (0, 0) hx6
          have z2 := cell_of_row _ _ 2 _ 83 (0, 0) hx6
          have z3' := cell_of_row _ _ 3 _ 83 (0, 0) hx6
          have zl := lt_of_row hx6
          have y0 := cell_of_row _ _ 0 _ 83 (0, 0) hL7.st
          have y1 := cell_of_row _ _ 1 _ 83 (0, 0) hL7.st
          have y2 := cell_of_row _ _ 2 _ 83 (0, 0) hL7.st
          have y3 := cell_of_row _ _ 3 _ 83 (0, 0) hL7.st
          have yl := lt_of_row hL7.st
          have HO7 := hide (show Only (fun k => POf P D vw vl vu k ∨ k = X) w3 (w6.setRow X #[I (g1 + 1), I rt, S nc, .slice qn Ln.length cn]) from (((unhide HO4).trans (Only.of_below (P := fun _ => False) (unhide HB5b)) (fun _ _ e => e.elim)).trans o56 (fun k hk e => (unhide HPO k e).elim .inl (fun q => by omega))).trans (setRow_Only w6 X _) (fun _ _ e => .inr e))
          have HL7 := hide hL7
          have HPO2 := hide hpo2
          clear hL7 hX6 hx6 ht pd6 o46 hfy hsn fm1 fm2 o56 hpo2 x1 x2 xl HC
          go_wp2_with (refine wp_st83 rfl (.tmp 7) (.tmp 103) rfl X (by rfl) (g1 + 1) rt nc (.slice qn Ln.length cn) rfl (by rfl) _ rfl (unhide HX6) ?_; generalize w6.setRow X #[I (g1 + 1), I rt, S nc, .slice qn Ln.length cn] = w7 at *)
          refine (unhide HIS).mono ?_
          rintro e w8 ⟨rfl, hp8, o8⟩
          have HL8 := hide ((unhide HL7).move (o8.mono (fun _ _ e => .inl e)) hp8)
          have HO8 := hide ((unhide HO7).trans o8 (fun k hk e => (unhide HPO2 k (.inl e)).elim .inl (fun q => by omega)))
          clear hp8 o8 z0 z1 z2 z3' zl y0 y1 y2 y3 yl
          go_wp2
          go_round
          case measure => simp [Go.RowKit.intOf] <;> omega
          case rel => exact ⟨j + 1, by omega, by simp, g1 + 1, rt, f2, a2', nc, Ln, qn, cn, last2, p', vw2, vu2, unhide HL8, by omega, by omega, by omega, unhide HO8, unhide HPO2⟩
        · have HST := hide hst
          have HDE := hide hdead
          have HDO := hide hdoubt
          clear hst hdead hdoubt
          go_wp2_with fail
          refine (unhide HC).mono ?_
          rintro e w6 ⟨rfl, ht⟩
          obtain ⟨vw2, vu2, pd6, o46, hfy, hsn, fm1, fm2, o56⟩ := (unhide HL4).mem (unhide HN) (Below.refl _ _) ht
          have hs45 := (unhide HB5b).size
          have hs4 := unhide HSZ
          have hs3 := (unhide HO).size
          have hpo2 : ∀ k, POf P D vw2 vl vu2 k → POf P D vw vl vu k ∨ w3.heap.size ≤ k := fun k e => by
            rcases hfy k (.inl e) with q | q
            · rcases q with q | q
              · exact unhide HPO k q
              · exact absurd e (hsn k q).2
            · right; omega
          have hx6 := (o56.block Zb (lt_of_row (unhide HXB)) (unhide HNZ)).trans (unhide HXB)
          have hX6 := (o56.block X (lt_of_row (unhide HX5)) ((unhide HL4).sn X (.inr (.inl rfl))).2).trans (unhide HX5)
          have HDD := hide (dead_any pd6.dat)
          have HDT := hide (doubt_any pd6)
          rw [unhide HDE] at HDD
          rw [unhide HDO] at HDT
          have HA6 := hide ((o56.block _ (lt_of_row (unhide HA5)) ((unhide HL4).sn (X + 2) (.inr (.inr (.inl rfl)))).2).trans (unhide HA5))
          have HB6 := hide ((o56.block _ (lt_of_row (unhide HB5)) ((unhide HL4).sn (X + 3) (.inr (.inr (.inr rfl)))).2).trans (unhide HB5))
          have HX6 := hide hX6
          have HXB6 := hide hx6
          have HPD6 := hide pd6
          have HSN := hide hsn
          have HF1 := hide fm1
          have HF2 := hide fm2
          have HPO2 := hide hpo2
          have hxe := unhide HXE
          have HW6 := hide (show Only (POf P D vw vl vu) w w6 from ((unhide HW4).trans (Only.of_below (P := fun _ => False) (unhide HB5b)) (fun _ _ e => e.elim)).trans o56 (fun k hk e => (unhide HPO k e).elim id (fun q => by omega)))
          have hZX : Zb ≠ X + 2 ∧ Zb ≠ X + 3 := by
            have := unhide HZ1
            have h1 := lt_of_row (unhide HA4)
            have h2 := lt_of_row (unhide HB4)
            omega
          clear hX6 hx6 ht pd6 o46 hfy hsn fm1 fm2 o56 hpo2 x1 x2 xl HC hxe
          go_wp2_with fail
          refine (unhide HDD).mono ?_
          rintro e wd ⟨rfl, hwd⟩
          rw [hwd]
          clear hwd wd
          go_wp2_with fail
          refine (unhide HDT).mono ?_
          rintro e wd ⟨rfl, hwd⟩
          rw [hwd]
          clear hwd wd
          go_upto_region 15 with fail
          refine rlv15 X Zb (X + 2) (X + 3) (.agg #[I g1, I r1, S nt1, .slice q1 Lp1.length c1]) (.agg #[I (g1 + 1), I rt, S nc, .slice qn Ln.length cn]) (by kernel_rfl) (by kernel_rfl) (by kernel_rfl) _ _ (by show 99 ≤ Array.size _; simp) rfl rfl rfl rfl rfl rfl (fun _ L W => W22 w6 (X + 2) (X + 3) 6 7 #[I g1, I r1, S nt1, .slice q1 Lp1.length c1] #[I (g1 + 1), I rt, S nc, .slice qn Ln.length cn] L W) ⟨(), Only.drew _ _, unhide HA6, unhide HB6⟩ ?_ ?_ ?_ ?_ ?_ ?_
          · intro i hi _ L W hW
            simp only [List.mem_cons, List.not_mem_nil, or_false, not_or] at hi
            exact hW.pure hi.1 hi.2
          · intro _ L W hW _
            exact s_ldr Tryz.isAgg83 Tryz.sizeOf83 ((hW.on.block X (lt_of_row (unhide HX6)) (by omega)).trans (unhide HX6)) [I g1, I r1, S nt1, .slice q1 Lp1.length c1] rfl rfl
          · intro _ L W hW _
            exact s_ldr Tryz.isAgg83 Tryz.sizeOf83 ((hW.on.block Zb (lt_of_row (unhide HXB6)) (by omega)).trans (unhide HXB6)) [I (g1 + 1), I rt, S nc, .slice qn Ln.length cn] rfl rfl
          · intro _ L W hW h2 _
            exact hW.sa h2 (by omega) (by omega)
          · intro _ L W hW h3 _
            exact hW.sb h3 (by omega) (by omega)
          intro _ L W hall hW
          have ra := hW.ra
          have rb := hW.rb
          rw [hall 6 (by omega), if_pos rfl] at ra
          rw [hall 7 (by omega), if_pos rfl] at rb
          have HR := hide (And.intro ra rb)
          have HON := hide hW.on
          clear ra rb hW hall
          simp only [Act.put, List.setIfInBounds_toArray, List.set_cons_succ, List.set_cons_zero]
          go_wp2
          refine out83 (p1 := 10) (p2 := 11) (q1 := 12) rfl (by rfl) (by rfl) (by rfl) (by rfl) (unhide HR).1 rfl (unhide HR).2 rfl ?_
          have on := unhide HON
          have hxe := unhide HXE
          have hL := unhide HL4
          refine LvP.mk (d' := d') (p' := p') (vw' := vw2) (vu' := vu2) ⟨(unhide HPD6).only on (fun k e1 e2 => (unhide HSN k (.inr (.inr e2))).2 e1), (unhide HW6).trans on (fun k hk e => by rcases e with e | e <;> omega), fun k e => (unhide HPO2 k e).imp id (fun e => by omega), ?_, ?_, by omega, ⟨by omega, by omega⟩, hL.nl, unhide HNL, .inr ⟨rfl, unhide HST⟩⟩
          · exact (unhide HF1).step (on.mono (fun k _ e => .inr (.inr (.inr e)))) (fun k _ e => e.elim .inl (fun e => .inr (.inl e)))
          · exact (unhide HF2).step (on.mono (fun k _ e => .inr (.inr (.inr e)))) (fun k _ e => e.elim .inl (fun e => .inr (.inl e)))
    · obtain rfl : j = nT := by omega
      have hlt' : ¬ (j : Int) < (j : Int) := by omega
      go_upto_region 22 with fail
      refine rlv22 X (X + 2) (X + 3) (.agg #[I g1, I r1, S nt1, .slice q1 Lp1.length c1]) (by kernel_rfl) (by kernel_rfl) (by kernel_rfl) _ _ (by show 114 ≤ Array.size _; simp) rfl rfl rfl (fun _ L W => W22 wr (X + 2) (X + 3) 2 3 #[I g1, I r1, S nt1, .slice q1 Lp1.length c1] #[I g1, I r1, S nt1, .slice q1 Lp1.length c1] L W) ⟨(), Only.drew _ _, unhide HA, unhide HB⟩ ?_ ?_ ?_ ?_ ?_ ?_
      · intro i hi _ L W hW
        simp only [List.mem_cons, List.not_mem_nil, or_false, not_or] at hi
        exact hW.pure hi.1 hi.2
      · intro _ L W hW _
        exact s_ldr Tryz.isAgg83 Tryz.sizeOf83 ((hW.on.block X (lt_of_row (unhide HL).st) (by omega)).trans (unhide HL).st) [I g1, I r1, S nt1, .slice q1 Lp1.length c1] rfl rfl
      · intro _ L W hW _
        exact s_ldr Tryz.isAgg83 Tryz.sizeOf83 ((hW.on.block X (lt_of_row (unhide HL).st) (by omega)).trans (unhide HL).st) [I g1, I r1, S nt1, .slice q1 Lp1.length c1] rfl rfl
      · intro _ L W hW h2 _
        exact hW.sa h2 (by omega) (by omega)
      · intro _ L W hW h3 _
        exact hW.sb h3 (by omega) (by omega)
      intro _ L W hall hW
      have ra := hW.ra
      have rb := hW.rb
      rw [hall 2 (by omega), if_pos rfl] at ra
      rw [hall 3 (by omega), if_pos rfl] at rb
      have HR := hide (And.intro ra rb)
      have HN := hide hW.on
      clear ra rb hW hall
      simp only [Act.put, List.setIfInBounds_toArray, List.set_cons_succ, List.set_cons_zero]
      go_wp2
      refine out83 (p1 := 10) (p2 := 11) (q1 := 12) rfl (by rfl) (by rfl) (by rfl) (by rfl) (unhide HR).1 rfl (unhide HR).2 rfl ?_
      have hL := unhide HL
      have on := unhide HN
      have hxe := unhide HXE
      refine LvP.mk (d' := Av last1 f1 a1) (p' := p1) (vw' := vw1) (vu' := vu1) ⟨hL.pd.only on (fun k e1 e2 => (hL.sn k (.inr (.inr e2))).2 e1), (unhide HW).trans on (fun k hk e => by rcases e with e | e <;> omega), fun k e => (unhide HPO k e).imp id (fun e => by omega), ?_, ?_, by omega, ⟨by show a ≤ a1; omega, by show a1 ≤ _; omega⟩, hL.nl, hL.nl, .inl ⟨⟨rfl, rfl, rfl, rfl, rfl, rfl⟩, fun st => hL.sd⟩⟩
      · exact hL.sp.step (on.mono (fun k _ e => .inr (.inr (.inr e)))) (fun k _ e => e.elim .inl (fun e => .inr (.inl e)))
      · exact hL.sp.step (on.mono (fun k _ e => .inr (.inr (.inr e)))) (fun k _ e => e.elim .inl (fun e => .inr (.inl e)))
end Go.Proofs.YtjopnhhdemfniaaGreatDoor
/- A store laid on a disk that may die meanwhile. -/
namespace Go.Proofs.YtjopnhhdemfniaaGreatDoor
open Go.RowKit
set_option maxHeartbeats 8000000
set_option maxRecDepth 8000
structure Fr (m : Nat) (last : List Bs) : Prop where
  dl : last.length = m
  d5 : ∀ x ∈ last, x.length = 512
  m8 : 8 ≤ m ∧ m ≤ 4096
  p0 : phr (last.getD 0 []) = (noHd, 90)
  p1 : phr (last.getD 1 []) = (noHd, 90)
theorem Fr.hct {m : Nat} {last : List Bs} (h : Fr m last) (f a : Int) : (Go.Proofs.YtjopnhhdemfniaaGreatDoor.hct (Av last f a)).2 = false := by
  have hl := h.dl
  have h8 := h.m8
  have e0 := hon_is (d := Av last f a) (b := 0) rfl (by show 0 < last.length; omega) rfl
  have e1 := hon_is (d := Av last f a) (b := 1) rfl (by show 1 < last.length; omega) rfl
  rw [show (Av last f a).last = last from rfl, h.p0] at e0
  rw [show (Av last f a).last = last from rfl, h.p1] at e1
  have l1 : lst (Av last f a) 1 = if (hon (Av last f a) 0).2 = true ∧ (0 : Int) < (hon (Av last f a) 0).1.gen then (hon (Av last f a) 0).1 else noHd := rfl
  have l2 : lst (Av last f a) 2 = if (hon (Av last f a) 1).2 = true ∧ (lst (Av last f a) 1).gen < (hon (Av last f a) 1).1.gen then (hon (Av last f a) 1).1 else lst (Av last f a) 1 := rfl
  rw [e0, if_neg (by simp)] at l1
  rw [e1, if_neg (by simp), l1] at l2
  unfold Go.Proofs.YtjopnhhdemfniaaGreatDoor.hct
  rw [l2]
  rfl
theorem std0 {m : Nat} {nt : Bs} {last : List Bs} (hl : last.length = m) (h5 : ∀ x ∈ last, x.length = 512) (h8 : 8 ≤ m ∧ m ≤ 4096) (hn : nt.length = 16) (p0 : phr (last.getD 0 []) = (noHd, 90)) (p1 : phr (last.getD 1 []) = (⟨1, 0, m, nt⟩, 0)) : Std m 1 0 nt [] last := by
  refine ⟨hl, h5, h8, by omega, ?_, p1, ?_, (fun _ hx => nomatch hx), List.Pairwise.nil, tre_none⟩
  · simp [Hd.may, isGn, hn]
    omega
  · intro h e
    change phr (last.getD 0 []) = _ at e
    rw [p0] at e
    exact absurd (congrArg Prod.snd e) (by simp)
theorem fmt_or {m : Nat} {last : List Bs} (h : Fr m last) (n : Bs) (hn : n.length = 16) (f a : Int) (hf : 0 ≤ f) :
    (∃ last2 f' a', fmt (Av last f a) n = (0, Av last2 f' a') ∧ Std m 1 0 n [] last2 ∧ 0 ≤ f' ∧ f' ≤ f ∧ a ≤ a' ∧ a' ≤ a + 3) ∨
    (∃ d', fmt (Av last f a) n = (2, d') ∧ 1 ≤ f ∧ d'.dead = true ∧ a ≤ d'.acts ∧ d'.acts ≤ a + 3 ∧ ∀ st, Fr m (crs d'.last d'.ws st d'.ws.length) ∨ Std m 1 0 n [] (crs d'.last d'.ws st d'.ws.length)) := by
  have hl := h.dl
  have h8 := h.m8
  obtain ⟨x, hx⟩ : ∃ x : Hd, x = ⟨1, 0, m, n⟩ := ⟨_, rfl⟩
  have hxm : x.may = true := by rw [hx]; simp [Hd.may, isGn, hn]; omega
  have hxf : fst1 (Av last f a) n = x := by rw [hx]; unfold fst1; rw [show (Av last f a).last = last from rfl, hl]
  have hbl : x.blk.length = 512 := Hd.blk_len (Hd.may_note hxm)
  have hpb : phr x.blk = (x, 0) := by unfold phr; rw [phd_blk hxm]
  have h0l : (last.getD 0 []).length = 512 := h.d5 _ (mem_getD (by omega))
  have h1l : (last.getD 1 []).length = 512 := h.d5 _ (mem_getD (by omega))
  have s0 : ∀ v : Bs, (last.set 0 v).getD 1 [] = last.getD 1 [] ∧ (last.set 0 v).getD 0 [] = v := fun v => by
    constructor
    · simp [List.getD_eq_getElem?_getD]
    · simp [List.getD_eq_getElem?_getD, show 0 < last.length by omega]
  have s1 : ∀ (L : List Bs) (v : Bs), L.length = m → (L.set 1 v).getD 0 [] = L.getD 0 [] ∧ (L.set 1 v).getD 1 [] = v := fun L v e => by
    constructor
    · simp [List.getD_eq_getElem?_getD]
    · simp [List.getD_eq_getElem?_getD, show 1 < L.length by omega]
  have hz : ∀ k, phr (tornv (last.getD 0 []) zs k) = (noHd, 90) ∧ (tornv (last.getD 0 []) zs k).length = 512 := fun k => ⟨(phr_torn _ _ k h0l zs_len).elim (fun e => e.trans h.p0) (fun e => e.trans phr_zs), tornv_len _ _ _ h0l zs_len⟩
  have hr0 : ∀ (ws : List Wr) (f a : Int), reachv ⟨ws, last, f, false, a⟩ 0 = 0 := fun ws f a => by
    unfold reachv
    rw [if_neg (by simp), if_neg (by omega), if_neg (by show ¬ (last.length : Int) ≤ 0; omega)]
  have hr1 : ∀ (ws : List Wr) (f a : Int), reachv ⟨ws, last, f, false, a⟩ 1 = 0 := fun ws f a => by
    unfold reachv
    rw [if_neg (by simp), if_neg (by omega), if_neg (by show ¬ (last.length : Int) ≤ 1; omega)]
  have hg1 : x.gen % 2 = 1 := by rw [hx]; rfl
  have ef : fmt (Av last f a) n = if writev (Av last f a) 0 zs ≠ 0 then (writev (Av last f a) 0 zs, (Av last f a).write 0 zs) else (wrhv ((Av last f a).write 0 zs) x, wrhd ((Av last f a).write 0 zs) x) := by
    unfold fmt
    rw [if_neg (by omega), if_neg (by simp [Av]), h.hct f a, if_neg (by simp), hxf]
  rw [ef]
  by_cases f1 : f = 1
  · subst f1
    have hw : writev (Av last 1 a) 0 zs = 2 := by
      unfold writev
      rw [if_neg (by rw [zs_len]; simp), if_neg (by rw [show Av last 1 a = ⟨[], last, 1, false, a⟩ from rfl, hr0]; simp)]
      rfl
    have hd : (Av last 1 a).write 0 zs = ⟨[], last, 1, true, a⟩ := by
      unfold Ds.write
      rw [if_neg (by rw [zs_len]; simp), if_neg (by rw [show Av last 1 a = ⟨[], last, 1, false, a⟩ from rfl, hr0]; simp), if_pos (by simp [actv, Av])]
      rfl
    refine .inr ⟨⟨[], last, 1, true, a⟩, by rw [hw, if_pos (by simp), hd], by omega, rfl, by show a ≤ a; omega, by show a ≤ a + 3; omega, fun st => .inl h⟩
  have hw : writev (Av last f a) 0 zs = 0 := by
    unfold writev
    rw [if_neg (by rw [zs_len]; simp), if_neg (by rw [show Av last f a = ⟨[], last, f, false, a⟩ from rfl, hr0]; simp)]
    simp [actv, Av, f1]
  have hd : (Av last f a).write 0 zs = ⟨[(0, zs)], last, max (f - 1) 0, false, a + 1⟩ := by
    unfold Ds.write
    rw [if_neg (by rw [zs_len]; simp), if_neg (by rw [show Av last f a = ⟨[], last, f, false, a⟩ from rfl, hr0]; simp), if_neg (by simp [actv, Av, f1])]
    simp [Ds.act, Av, f1, Ds.put, putW]
  rw [hw, if_neg (by simp), hd]
  obtain ⟨f2, hf2⟩ : ∃ f2, max (f - 1) 0 = f2 := ⟨_, rfl⟩
  rw [hf2]
  unfold wrhv wrhd
  rw [hg1]
  by_cases g1 : f2 = 1
  · subst g1
    have hw2 : writev ⟨[(0, zs)], last, 1, false, a + 1⟩ 1 x.blk = 2 := by
      unfold writev
      rw [if_neg (by omega), if_neg (by rw [hr1]; simp)]
      rfl
    have hd2 : Ds.write ⟨[(0, zs)], last, 1, false, a + 1⟩ 1 x.blk = ⟨[(0, zs)], last, 1, true, a + 1⟩ := by
      unfold Ds.write
      rw [if_neg (by omega), if_neg (by rw [hr1]; simp), if_pos (by simp [actv])]
      rfl
    refine .inr ⟨⟨[(0, zs)], last, 1, true, a + 1⟩, by rw [hw2, if_pos (by simp), if_pos (by simp), hd2], by omega, rfl, by show a ≤ a + 1; omega, by show a + 1 ≤ a + 3; omega, fun st => .inl ?_⟩
    show Fr m (last.set 0 (tornv (last.getD 0 []) zs ((st.getD 0 none).getD 0)))
    generalize (st.getD 0 none).getD 0 = kk
    exact ⟨by rw [List.length_set]; exact hl, set_sz h.d5 (hz kk).2, h8, by rw [(s0 _).2]; exact (hz kk).1, by rw [(s0 _).1]; exact h.p1⟩
  have hw2 : writev ⟨[(0, zs)], last, f2, false, a + 1⟩ 1 x.blk = 0 := by
    unfold writev
    rw [if_neg (by omega), if_neg (by rw [hr1]; simp)]
    simp [actv, g1]
  have hd2 : Ds.write ⟨[(0, zs)], last, f2, false, a + 1⟩ 1 x.blk = ⟨[(0, zs), (1, x.blk)], last, max (f2 - 1) 0, false, a + 1 + 1⟩ := by
    unfold Ds.write
    rw [if_neg (by omega), if_neg (by rw [hr1]; simp), if_neg (by simp [actv, g1])]
    simp [Ds.act, g1, Ds.put, putW]
  rw [hw2, if_neg (by simp), if_neg (by simp), hd2]
  obtain ⟨f3, hf3⟩ : ∃ f3, max (f2 - 1) 0 = f3 := ⟨_, rfl⟩
  rw [hf3]
  by_cases g2 : f3 = 1
  · subst g2
    refine .inr ⟨⟨[(0, zs), (1, x.blk)], last, 1, true, a + 1 + 1⟩, by simp [syncv, Ds.sync, actv, Ds.act], by omega, rfl, by show a ≤ a + 1 + 1; omega, by show a + 1 + 1 ≤ a + 3; omega, fun st => ?_⟩
    obtain ⟨t0, ht0⟩ : ∃ t0, tornv (last.getD 0 []) zs ((st.getD 0 none).getD 0) = t0 := ⟨_, rfl⟩
    have hz0 := hz ((st.getD 0 none).getD 0)
    rw [ht0] at hz0
    have ec : crs last [(0, zs), (1, x.blk)] st [(0, zs), (1, x.blk)].length = (last.set 0 t0).set 1 (tornv ((last.set 0 t0).getD 1 []) x.blk ((st.getD 1 none).getD 0)) := by rw [← ht0]; rfl
    show Fr m (crs last [(0, zs), (1, x.blk)] st [(0, zs), (1, x.blk)].length) ∨ Std m 1 0 n [] (crs last [(0, zs), (1, x.blk)] st [(0, zs), (1, x.blk)].length)
    rw [ec, (s0 t0).1]
    generalize (st.getD 1 none).getD 0 = kk
    have hl0 : (last.set 0 t0).length = m := by rw [List.length_set]; exact hl
    have h50 : ∀ y ∈ last.set 0 t0, y.length = 512 := set_sz h.d5 hz0.2
    have htl := tornv_len (last.getD 1 []) x.blk kk h1l hbl
    have hl1 : ((last.set 0 t0).set 1 (tornv (last.getD 1 []) x.blk kk)).length = m := by rw [List.length_set]; exact hl0
    rcases phr_torn (last.getD 1 []) x.blk kk h1l hbl with e | e
    · exact .inl ⟨hl1, set_sz h50 htl, h8, by rw [(s1 _ _ hl0).1, (s0 t0).2]; exact hz0.1, by rw [(s1 _ _ hl0).2, e]; exact h.p1⟩
    · exact .inr (std0 hl1 (set_sz h50 htl) h8 hn (by rw [(s1 _ _ hl0).1, (s0 t0).2]; exact hz0.1) (by rw [(s1 _ _ hl0).2, e, hpb, hx]))
  · have hl0 : (last.set 0 zs).length = m := by rw [List.length_set]; exact hl
    refine .inl ⟨(last.set 0 zs).set 1 x.blk, max (f3 - 1) 0, a + 1 + 1 + 1, by simp [syncv, Ds.sync, actv, Ds.act, g2, snc, Av], ?_, by omega, by omega, by omega, by omega⟩
    exact std0 (by rw [List.length_set]; exact hl0) (set_sz (set_sz h.d5 zs_len) hbl) h8 hn (by rw [(s1 _ _ hl0).1, (s0 zs).2]; exact phr_zs) (by rw [(s1 _ _ hl0).2, hpb, hx])
theorem fmt_ok {d : Ds} (h : Ok d) (n : Bs) : Ok (fmt d n).2 := by
  unfold fmt
  split
  · exact h
  · split
    · exact h
    · split
      · exact h
      · split
        · exact h.write 0 zs
        · exact (wrhd_ok (fst1 d n) (h.write 0 zs)).1
theorem av_ok {last : List Bs} {m : Nat} (hl : last.length = m) (h5 : ∀ x ∈ last, x.length = 512) (h8 : 8 ≤ m ∧ m ≤ 4096) {f : Int} (a : Int) (hf : 0 ≤ f) (hf2 : f ≤ 9223372036854775807) : Ok (Av last f a) :=
  ⟨fun i j h1 h2 => absurd h2 (Nat.not_lt_zero _), fun x hx => (nomatch hx), h5, by show 8 ≤ last.length ∧ last.length ≤ 4096; rw [hl]; exact h8, ⟨hf, hf2⟩⟩
/-- Mount where there is no head. -/
theorem mountN_any {D : Nat} {d : Ds} {vw vl : Value} {w : World} (h : DAt D d vw vl w) (ho : Ok d) (hd : d.dead = false) (hc : (hct d).2 = false) :
    Calls Tryz.prog 39 #[ptr D] w fun e w' => e = .returned (.tuple #[.pointer none, I 90]) ∧ Below w.heap.size w w' := by
  have H0 := hide (dead_any h)
  rw [hd] at H0
  have H1 := hide (headThatCounts_any h ho)
  rw [hc] at H1
  generalize (hct d).1 = x at *
  obtain ⟨g, r, b, nt⟩ := x
  unfold hda at H1
  simp only at H1
  clear h ho hd hc
  go_enter Tryz.func39, Tryz.ntmps39
  go_wp2_with fail
  refine (unhide H0).mono ?_
  rintro e w0 ⟨rfl, hw0⟩
  rw [hw0]
  clear hw0 w0
  go_wp2_with fail
  refine (unhide H1).mono ?_
  rintro e w1 ⟨rfl, b1⟩
  have B1 := hide (b1.alloc b1.size (.cells #[I g, I r, I b, S nt] 123))
  clear b1
  go_wp2
  go_ret2
  exact ⟨rfl, unhide B1⟩
end Go.Proofs.YtjopnhhdemfniaaGreatDoor
