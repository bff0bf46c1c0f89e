import Derived.Test.YtjopnhhdemfniaaGreatDoorZqbk
import Derived.Test.YtjopnhhdemfniaaGreatDoorZqba
import Derived.Test.YtjopnhhdemfniaaGreatDoorZqbi
import Derived.Test.YtjopnhhdemfniaaGreatDoorZpim
/- What stands from step to step of the law. -/
namespace Go.Proofs.YtjopnhhdemfniaaGreatDoor
open Go.RowKit
set_option maxHeartbeats 4000000
def FY (P D : Nat) (vw vl vu : Value) (Y : Nat) (k : Nat) : Prop := POf P D vw vl vu k ∨ k = Y
structure Bd (m Y P D : Nat) (vl vw vu : Value) (gen root al : Int) (nt : Bs) (Lp : List Pv) (q : Option Addr) (c : Nat) (Lw : List Pw) (v : Value) (last : List Bs) (p : Pr) (W : World) : Prop where
  hd : Hds m gen root (Lp.map (·.1)) (Lw.map (·.1)) last p
  pd : PD P D (Lv [] last al) p vw vl vu W
  st : W.heap[Y]? = some (.cells #[I gen, I root, S nt, .slice q Lp.length c] 83 (0, 0))
  yn : ¬ POf P D vw vl vu Y
  sp : Frm (FY P D vw vl vu Y) W (fun W' => Sps W' q Lp)
  rw : W.ownsRow 0 101 2 v Lw.length (pws Lw)
  rn : ∀ k, v.ownBlock = some k → ¬ FY P D vw vl vu Y k
  pn : Frm (FY P D vw vl vu Y) W (fun W' => ∀ x ∈ Lw, ∃ q c, x.2 = .slice q x.1.2.length c ∧ Pgs W' q x.1.2.length x.1.2)
  pb : ∀ x ∈ Lw, x.1.2.length ≤ 4096
variable {m Y P D : Nat} {vl vw vu : Value} {gen root al : Int} {nt : Bs} {Lp : List Pv} {q : Option Addr} {c : Nat} {Lw : List Pw} {v : Value} {last : List Bs} {p : Pr} {W : World}
theorem Bd.below (h : Bd m Y P D vl vw vu gen root al nt Lp q c Lw v last p W) {W' : World} (b : Below W.heap.size W W') : Bd m Y P D vl vw vu gen root al nt Lp q c Lw v last p W' :=
  ⟨h.hd, h.pd.below b, (b.block _ (lt_of_row h.st)).trans h.st, h.yn, h.sp.below b, owns_below h.rw b, h.rn, h.pn.below b, h.pb⟩
theorem Bd.old (h : Bd m Y P D vl vw vu gen root al nt Lp q c Lw v last p W) : ∀ k, FY P D vw vl vu Y k → k < W.heap.size := fun k e => e.elim (h.pd.old k) (fun e => by rw [e]; exact lt_of_row h.st)
/-- The pager alone was at work. -/
theorem Bd.move (h : Bd m Y P D vl vw vu gen root al nt Lp q c Lw v last p W) {W' : World} {p' : Pr} (o : Only (POf P D vw vl vu) W W') (hd : Hds m gen root (Lp.map (·.1)) (Lw.map (·.1)) last p') (hp : PD P D (Lv [] last al) p' vw vl vu W') : Bd m Y P D vl vw vu gen root al nt Lp q c Lw v last p' W' :=
  ⟨hd, hp, (o.block _ (lt_of_row h.st) h.yn).trans h.st, h.yn, h.sp.only o (fun _ r => .inl r), owns_only h.rw o (fun k hk r => h.rn k hk (.inl r)), h.rn, h.pn.only o (fun _ r => .inl r), h.pb⟩
/-- The pins' list is another. -/
theorem Bd.pins (h : Bd m Y P D vl vw vu gen root al nt Lp q c Lw v last p W) {W' : World} {p' : Pr} {Lw' : List Pw} {v' : Value} (o : Only (POf P D vw vl vu) W W') (hd : Hds m gen root (Lp.map (·.1)) (Lw'.map (·.1)) last p') (hp : PD P D (Lv [] last al) p' vw vl vu W') (r : W'.ownsRow 0 101 2 v' Lw'.length (pws Lw')) (rn : ∀ k, v'.ownBlock = some k → W.heap.size ≤ k) (hl : ∀ x ∈ Lw', x ∈ Lw ∨ (x.2 = .slice q Lp.length c ∧ x.1.2 = Lp.map (·.1))) (hlen : Lp.length ≤ 4096) : Bd m Y P D vl vw vu gen root al nt Lp q c Lw' v' last p' W' := by
  refine ⟨hd, hp, (o.block _ (lt_of_row h.st) h.yn).trans h.st, h.yn, h.sp.only o (fun _ r => .inl r), r, fun k hk e => ?_, ?_, ?_⟩
  · have h1 := rn k hk
    rcases e with e | e
    · have := h.pd.old k e
      omega
    · have := lt_of_row h.st
      omega
  · intro W2 o2 x hx
    rcases hl x hx with e | ⟨e1, e2⟩
    · exact h.pn.only o (fun _ r => .inl r) W2 o2 x e
    · have := h.sp.only o (fun _ r => .inl r) W2 o2
      refine ⟨q, c, by rw [e1, e2, List.length_map], ?_⟩
      rw [e2, List.length_map]
      exact this.2
  · intro x hx
    rcases hl x hx with e | ⟨_, e2⟩
    · exact h.pb x e
    · rw [e2, List.length_map]
      exact hlen
theorem pns_of {W : World} {v : Value} {Lw : List Pw} {a : Option Addr} {n cap : Nat} (hv : v = .slice a n cap) (h : W.ownsRow 0 101 2 v Lw.length (pws Lw)) (hl : ∀ x ∈ Lw, ∃ q c, x.2 = .slice q x.1.2.length c ∧ Pgs W q x.1.2.length x.1.2) : Pns W a n (Lw.map (·.1)) := by
  obtain ⟨a', c', e⟩ := owns_form h
  rw [hv] at e
  injection e with e1 e2 e3
  subst e1 e2
  refine ⟨by rw [List.length_map], fun h0 => ?_⟩
  obtain ⟨g, cap', cur, e, _⟩ := owns_at h h0
  rw [hv] at e
  injection e with e1 e2 e3
  subst e1
  refine ⟨g, 0, rfl, fun j hj => ?_⟩
  obtain ⟨q, c, e, hp⟩ := hl Lw[j] (List.getElem_mem hj)
  have e0 : (Lw.map (·.1)).getD j noPn = Lw[j].1 := by simp [hj]
  have hc := fun i u => World.ownsRow.cells h (g := g) (by rw [hv]; rfl) (j * 2 + i) u
  refine ⟨q, c, ?_, ?_, ?_⟩
  · have := hc 0 (I Lw[j].1.1) (by rw [pws_get _ _ _ hj (by omega)]; rfl)
    rw [add_at] at this
    rw [e0, Nat.zero_add]
    exact this
  · have := hc 1 Lw[j].2 (by rw [pws_get _ _ _ hj (by omega)]; rfl)
    rw [add_at] at this
    rw [e0, Nat.zero_add, ← e]
    exact this
  · rw [e0]
    exact hp
theorem Bd.pns (h : Bd m Y P D vl vw vu gen root al nt Lp q c Lw v last p W) {a : Option Addr} {n cap : Nat} (hv : v = .slice a n cap) : Frm (POf P D vw vl vu) W (fun W' => Pns W' a n (Lw.map (·.1)) ∧ Pgs W' q (Lp.map (·.1)).length (Lp.map (·.1))) := by
  intro W' o
  have o' : Only (FY P D vw vl vu Y) W W' := o.mono (fun _ _ r => .inl r)
  refine ⟨pns_of hv (owns_only h.rw o (fun k hk r => h.rn k hk (.inl r))) (h.pn W' o'), ?_⟩
  rw [List.length_map]
  exact (h.sp W' o').2
/-- Rising numbers are few. -/
theorem few_of : ∀ (ps : List Pg) (a : Int) (m : Nat), (∀ x ∈ ps, a ≤ x.number ∧ x.number < m) → ps.Pairwise (fun x y => x.number < y.number) → a ≤ m → (ps.length : Int) ≤ m - a
  | [], _, _, _, _, h => by simp; omega
  | x :: ps, a, m, h, hs, ha => by
    rw [List.pairwise_cons] at hs
    have hx := h x (List.mem_cons_self ..)
    have := few_of ps (x.number + 1) m (fun y hy => ⟨by have := hs.1 y hy; omega, (h y (List.mem_cons_of_mem _ hy)).2⟩) hs.2 (by omega)
    simp only [List.length_cons]
    omega
theorem Bd.few (h : Bd m Y P D vl vw vu gen root al nt Lp q c Lw v last p W) : Lp.length ≤ 4096 := by
  have := few_of (Lp.map (·.1)) 0 m (fun x hx => by have := h.hd.pg x (.inl hx); omega) h.hd.srt (by omega)
  have h8 := h.hd.m8
  rw [List.length_map] at this
  omega
theorem Bd.holds (h : Bd m Y P D vl vw vu gen root al nt Lp q c Lw v last p W) {a : Option Addr} {n cap : Nat} (hv : v = .slice a n cap) : Calls Tryz.prog 52 #[ptr P, .slice a n cap, .agg #[I gen, I root, S nt, .slice q Lp.length c], I (m : Int)] W fun e w' => e = .returned (.bool true) ∧ Bd m Y P D vl vw vu gen root al nt Lp q c Lw v last p w' ∧ Only (fun k => k = P) W w' := by
  have hf := h.few
  have := holds_any h.hd nt a n cap q c W h.pd (fun W' o => h.pns hv W' (o.mono (fun _ _ r => .inl r))) (by rw [List.length_map]; omega) (fun x hx => by
    obtain ⟨y, hy, rfl⟩ := List.mem_map.1 hx
    have := h.pb y hy
    omega)
  rw [List.length_map] at this
  refine this.mono ?_
  rintro e w' ⟨rfl, hp, o⟩
  exact ⟨rfl, h.move (o.mono (fun _ _ r => .inl r)) h.hd hp, o⟩
theorem sps_lnk {W : World} {q : Option Addr} {L : List Pv} (h : Sps W q L) : ∀ x ∈ L, Lnk W x := by
  intro x hx
  obtain ⟨j, hj, rfl⟩ := List.getElem_of_mem hx
  obtain ⟨g, o, e, hc⟩ := h.1 (by omega)
  obtain ⟨g2, o2, q2, c2, e2, _, _, _, _, d3, _, hi⟩ := h.2.at hj
  rw [e] at e2
  cases e2
  have e0 : (L.map (·.1)).getD j noPg = L[j].1 := by simp [hj]
  have := hc (j * 5 + 3) L[j].2 (by rw [pvs_get L j 3 hj (by omega)]; rfl)
  rw [← Nat.add_assoc] at this
  rw [this] at d3
  rw [e0] at d3 hi
  exact ⟨q2, c2, Option.some.inj d3, hi⟩
end Go.Proofs.YtjopnhhdemfniaaGreatDoor
/- A commit of the law's: what stands behind it. -/
namespace Go.Proofs.YtjopnhhdemfniaaGreatDoor
open Go.RowKit
set_option maxHeartbeats 4000000
variable {m Y P D : Nat} {vl vw vu : Value} {gen root al : Int} {nt : Bs} {Lp : List Pv} {q : Option Addr} {c : Nat} {Lw : List Pw} {v : Value} {last : List Bs} {p : Pr} {W : World}
/-- What lies in a row from here on is not touched. -/
theorem ln_only {F : Nat → Prop} {w w' : World} {x : Pv} (o : Only F w w') (h : (x.2 = nlv ∧ x.1.links = []) ∨ (w.ownsRow 0 3 1 x.2 x.1.links.length (x.1.links.map fun z => I z) ∧ ∀ k, x.2.ownBlock = some k → ¬ F k)) : Lnk w' x := by
  rcases h with ⟨e1, e2⟩ | ⟨r, hn⟩
  · exact ⟨none, 0, by rw [e1, e2]; rfl, by rw [e2]; exact ⟨rfl, fun h => absurd h (Nat.lt_irrefl _)⟩⟩
  · obtain ⟨q, c, e⟩ := owns_form r
    have r' := owns_only r o hn
    rw [e] at r'
    exact ⟨q, c, e, ins_of r'⟩
theorem cmr_fresh {d d' : Ds} {p p' : Pr} {l : List Pg} {root : Int} {note : Bs} {gone : List Int} (h : cmr d p l root note gone = (0, d', p')) : l.all Pg.fresh = true := by
  rw [cmr_eq] at h
  split at h
  · exact absurd (congrArg Prod.fst h) (by simp)
  · split at h
    · exact absurd (congrArg Prod.fst h) (by simp)
    · rename_i _ q
      cases e : l.all Pg.fresh with
      | true => rfl
      | false => rw [e] at q; exact absurd rfl q
theorem Bd.args (h : Bd m Y P D vl vw vu gen root al nt Lp q c Lw v last p W) {W2 W3 : World} {how cc rt : Int} {fr : List Int} {Lf Ln : List Pv} {G : List Int} {vn : Value} {a a2 : Option Addr} {cap cap2 : Nat}
    (hN : NxOut W gen root how cc fr Lp rt Lf Ln G (.slice a Lf.length cap) vn (.slice a2 G.length cap2) W2) (b3 : Below W2.heap.size W2 W3) : ∀ W', Only (POf P D vw vl vu) W3 W' → Pgs W' a Lf.length (Lf.map (·.1)) ∧ Ins W' a2 G.length G := by
  intro W' o
  have hnl : ∀ k, W.heap.size ≤ k → ¬ POf P D vw vl vu k := fun k h1 e => by have := h.pd.old k e; omega
  have o' : Only (POf P D vw vl vu) W2 W' := (Only.of_below b3).trans o (fun _ _ r => r)
  have r1 := owns_only hN.rf o' (fun k hk => hnl k (hN.nf k hk))
  have r2 := owns_only hN.rg o' (fun k hk => hnl k (hN.ng k hk))
  refine ⟨pgs_of (row_cells (q := a) (n := Lf.length) (c := cap) rfl r1) (fun x hx => ?_), ins_of r2⟩
  exact ln_only o' ((hN.lk x hx).imp id (fun ⟨r, hk⟩ => ⟨r, fun k hb => hnl k (hk k hb)⟩))
theorem Bd.commit (h : Bd m Y P D vl vw vu gen root al nt Lp q c Lw v last p W) {W2 W3 : World} {how cc rt : Int} {fr : List Int} {Lf Ln : List Pv} {G : List Int} {vn : Value} {a a2 : Option Addr} {cap cap2 : Nat} (k : Nat) (h1 : 1 ≤ k) (h5 : k ≤ 5) (hk : k ≤ (fre m (Lp.map (·.1)) (Lw.map (·.1))).length) (hfr : fr = (fre m (Lp.map (·.1)) (Lw.map (·.1))).take k) (hgen : gen ≤ 1000000000000) (hal : 0 ≤ al ∧ al ≤ 99999999999999)
    (hN : NxOut W gen root how cc fr Lp rt Lf Ln G (.slice a Lf.length cap) vn (.slice a2 G.length cap2) W2) (b3 : Below W2.heap.size W2 W3) :
    ∃ last' p', Hds m (gen + 1) rt (Ln.map (·.1)) (Lw.map (·.1)) last' p' ∧ (∀ n, n < m → usd (Lp.map (·.1)) (Lw.map (·.1)) n = true → last'.getD n [] = last.getD n []) ∧ Lf.length ≤ 5 ∧
      Calls Tryz.prog 51 #[ptr P, .slice a Lf.length cap, I rt, S (nte cc), .slice a2 G.length cap2] W3 fun e w' => e = .returned (I 0) ∧ PTo P D (Lv [] last' (al + (Lf.length : Nat) + 3)) p' vw vl vu W3 w' := by
  have hm8 := h.hd.m8
  have hperm : (Ln.map (·.1)).Perm (if gns how (Lp.map (·.1)) = [] then frs how fr root cc (gen + 1) ++ Lp.map (·.1) else frs how fr root cc (gen + 1)) := by
    have := hN.perm.map (fun x : Pv => x.1)
    rw [hN.hg] at this
    split
    · rename_i e
      rw [if_pos e, List.map_append, hN.hf] at this
      exact this
    · rename_i e
      rw [if_neg e, hN.hf] at this
      exact this
  obtain ⟨last', p', hc, hd', hu⟩ := h.hd.turn al how cc k h1 h5 hk hgen (Ln.map (·.1)) fr hfr rt hN.hrt hperm (List.pairwise_map.2 hN.srt)
  have hfre := cmr_fresh hc
  rw [← hN.hf] at hc hfre
  rw [← hN.hg] at hc
  rw [List.all_eq_true] at hfre
  have hfl : fr.length = k := by rw [hfr, List.length_take]; omega
  have hl5 : Lf.length ≤ 5 := by
    have e : Lf.length = (frs how fr root cc (gen + 1)).length := by rw [← hN.hf, List.length_map]
    rw [e]
    by_cases q : pkv how 5 ≤ 3
    · have := congrArg List.length (frs_num how fr root cc (gen + 1) q (by omega))
      rw [List.length_map] at this
      omega
    · rw [frs_high _ _ _ _ _ q]
      simp
  have hfx : ∀ x ∈ Lf.map (fun x : Pv => x.1), x.links.length ≤ 1000 ∧ x.body.length ≤ 1000 ∧ ∀ z ∈ x.links, z < 4096 := fun x hx => by
    have := hfre x hx
    unfold Pg.fresh at this
    simp only [Bool.and_eq_true, decide_eq_true_eq, List.all_eq_true] at this
    obtain ⟨⟨⟨⟨q1, _⟩, _⟩, _⟩, q2⟩ := this
    refine ⟨by omega, by omega, fun z hz => ?_⟩
    have := q2 z hz
    unfold isPg at this
    simp only [Bool.and_eq_true, decide_eq_true_eq] at this
    exact this.2
  have hgm : ∀ z ∈ G, z < 4096 := fun z hz => by
    have hne : ¬ gns how (Lp.map (·.1)) = [] := fun e => by rw [hN.hg, e] at hz; cases hz
    rw [hN.hg, gns_ne hne] at hz
    obtain ⟨x, hx, rfl⟩ := List.mem_map.1 hz
    have := h.hd.pg x (.inl hx)
    omega
  have hgl : G.length ≤ 4096 := by
    by_cases e : gns how (Lp.map (·.1)) = []
    · rw [hN.hg, e]; simp
    · rw [hN.hg, gns_ne e, List.length_map, List.length_map]
      exact h.few
  have hrt : rt < 4096 := by
    rcases hd'.rt with e | ⟨x, hx, e⟩
    · omega
    · have := hd'.pg x (.inl hx)
      omega
  have hpd3 : PD P D (Lv [] last al) p vw vl vu W3 := (h.pd.below hN.bel).below b3
  have key := commit_any hpd3 (h.hd.prok al) a a2 Lf.length cap G.length cap2 (Lf.map (·.1)) rt (nte cc) G (h.args hN b3) (fun x hx => by have := hfx x hx; omega) (fun x hx z hz => by have := (hfx x hx).2.2 z hz; omega) (fun z hz => by have := hgm z hz; omega) (by omega) (by rw [nte_len]; omega) hal (by omega) (by omega)
  rw [hc, List.length_map] at key
  exact ⟨last', p', hd', hu, hl5, key⟩
theorem Bd.turn (h : Bd m Y P D vl vw vu gen root al nt Lp q c Lw v last p W) {W2 W3 W4 : World} {how cc rt : Int} {fr : List Int} {Lf Ln : List Pv} {G : List Int} {vf vg : Value} {qn : Option Addr} {cn : Nat} {last' : List Bs} {p' : Pr} {al' : Int} {nt' : Bs}
    (hN : NxOut W gen root how cc fr Lp rt Lf Ln G vf (.slice qn Ln.length cn) vg W2) (b3 : Below W2.heap.size W2 W3) (ht : PTo P D (Lv [] last' al') p' vw vl vu W3 W4) (hd : Hds m (gen + 1) rt (Ln.map (·.1)) (Lw.map (·.1)) last' p') :
    ∃ vw' vu', Bd m Y P D vl vw' vu' (gen + 1) rt al' nt' Ln qn cn Lw v last' p' (W4.setRow Y #[I (gen + 1), I rt, S nt', .slice qn Ln.length cn]) ∧ (∀ k, FY P D vw' vl vu' Y k → FY P D vw vl vu Y k ∨ W.heap.size ≤ k) ∧ Only (FY P D vw vl vu Y) W (W4.setRow Y #[I (gen + 1), I rt, S nt', .slice qn Ln.length cn]) := by
  obtain ⟨vw', vu', hp, o4, hw', hu'⟩ := ht
  have s2 := hN.bel.size
  have s3 := b3.size
  have s4 := o4.size
  have hold := h.old
  have hYl := lt_of_row h.st
  have hfy : ∀ k, FY P D vw' vl vu' Y k → FY P D vw vl vu Y k ∨ W3.heap.size ≤ k := by
    rintro k (e | e)
    · rcases e with e | e | e
      · exact .inl (.inl (.inl e))
      · rcases hu' k e with e | e
        · exact .inl (.inl (.inr (.inl e)))
        · exact .inr e
      · rcases e with e | e | e
        · exact .inl (.inl (.inr (.inr (.inl e))))
        · rcases hw' k e with e | e
          · exact .inl (.inl (.inr (.inr (.inr (.inl e)))))
          · exact .inr e
        · exact .inl (.inl (.inr (.inr (.inr (.inr e)))))
    · exact .inl (.inr e)
  have hYst3 : W3.heap[Y]? = some (.cells #[I gen, I root, S nt, .slice q Lp.length c] 83 (0, 0)) := (b3.block _ (by omega)).trans ((hN.bel.block _ hYl).trans h.st)
  have hYst4 := (o4.block Y (lt_of_row hYst3) h.yn).trans hYst3
  have hyn' : ¬ POf P D vw' vl vu' Y := fun e => by
    rcases e with e | e | e
    · exact h.yn (.inl e)
    · rcases hu' Y e with e | e
      · exact h.yn (.inr (.inl e))
      · omega
    · rcases e with e | e | e
      · exact h.yn (.inr (.inr (.inl e)))
      · rcases hw' Y e with e | e
        · exact h.yn (.inr (.inr (.inr (.inl e))))
        · omega
      · exact h.yn (.inr (.inr (.inr (.inr e))))
  have oR := setRow_Only W4 Y #[I (gen + 1), I rt, S nt', .slice qn Ln.length cn]
  have hst5 := setRow_row (vs := #[I (gen + 1), I rt, S nt', .slice qn Ln.length cn]) hYst4
  generalize W4.setRow Y #[I (gen + 1), I rt, S nt', .slice qn Ln.length cn] = W5 at *
  have o25 : Only (FY P D vw vl vu Y) W2 W5 := (Only.of_below b3).trans ((o4.mono (Q := FY P D vw vl vu Y) (fun _ _ r => .inl r)).trans oR (fun _ _ r => .inr r)) (fun _ _ r => r)
  have o15 : Only (FY P D vw vl vu Y) W W5 := (Only.of_below hN.bel).trans o25 (fun _ _ r => r)
  have hst : ∀ k, k < W.heap.size → FY P D vw' vl vu' Y k → FY P D vw vl vu Y k := fun k hk e => (hfy k e).elim id (fun e => by omega)
  have hfar : ∀ k, W.heap.size ≤ k → k < W2.heap.size → ¬ FY P D vw vl vu Y k ∧ ¬ FY P D vw' vl vu' Y k := fun k h1 h2 => by
    have n1 : ¬ FY P D vw vl vu Y k := fun e => by have := hold k e; omega
    exact ⟨n1, fun e => (hfy k e).elim n1 (fun e => by omega)⟩
  refine ⟨vw', vu', ⟨hd, hp.only oR (fun k e e2 => hyn' (e2 ▸ e)), hst5, hyn', ?_, owns_only h.rw o15 h.rn, fun k hk e => h.rn k hk (hst k (owns_blk h.rw k hk) e), h.pn.step o15 hst, h.pb⟩, fun k e => (hfy k e).imp id (fun e => by omega), o15⟩
  intro W' o'
  have o1' : Only (FY P D vw vl vu Y) W W' := o15.trans o' hst
  have o2' : Only (fun k => FY P D vw vl vu Y k ∨ FY P D vw' vl vu' Y k) W2 W' := (o25.mono (fun _ _ r => .inl r)).trans o' (fun _ _ r => .inr r)
  have hnl : ∀ k, W.heap.size ≤ k → k < W2.heap.size → ¬ (FY P D vw vl vu Y k ∨ FY P D vw' vl vu' Y k) := fun k h1 h2 e => e.elim (hfar k h1 h2).1 (hfar k h1 h2).2
  have rn' := owns_only hN.rn o2' (fun k hk => hnl k (hN.nn k hk) (owns_blk hN.rn k hk))
  have hcl := row_cells (q := qn) (n := Ln.length) (c := cn) rfl rn'
  refine ⟨hcl, pgs_of hcl (fun x hx => ?_)⟩
  have hx' := hN.perm.mem_iff.1 hx
  have hx'' : x ∈ Lf ∨ x ∈ Lp := by
    split at hx'
    · exact List.mem_append.1 hx'
    · exact .inl hx'
  rcases hx'' with e | e
  · exact ln_only o2' ((hN.lk x e).imp id (fun ⟨r, hk⟩ => ⟨r, fun k hb => hnl k (hk k hb) (owns_blk r k hb)⟩))
  · exact sps_lnk (h.sp W' o1') x e
end Go.Proofs.YtjopnhhdemfniaaGreatDoor
