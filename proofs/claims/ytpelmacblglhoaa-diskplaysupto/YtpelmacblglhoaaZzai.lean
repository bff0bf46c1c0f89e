import Derived.Test.YtpelmacblglhoaaZzah
namespace Go.Proofs.Ytpelmacblglhoaa
open Go.RowKit
set_option maxHeartbeats 4000000
set_option maxRecDepth 8000
theorem cellsW_set (l : List Wr) (i : Nat) (x : Wr) (hi : i < l.length) : ((cellsW l).set (i * 2) (I x.1)).set (i * 2 + 1) (S x.2) = cellsW (l.set i x) := by
  induction l generalizing i with
  | nil => simp at hi
  | cons y l ih =>
    cases i with
    | zero => rfl
    | succ i =>
      rw [show (i + 1) * 2 = i * 2 + 1 + 1 by omega]
      show I y.1 :: S y.2 :: (((cellsW l).set (i * 2) (I x.1)).set (i * 2 + 1) (S x.2)) = I y.1 :: S y.2 :: cellsW (l.set i x)
      rw [ih i (by simpa using hi)]
/-- Behind an Insert the disk's own block stands as it stood. -/
theorem ins_facts {D : Nat} {d : Ds} {vw vl V : Value} {w W w' : World} {l : List Wr} {o : Obj} (h : DAt D d vw vl w) (hi : Insd (W.alloc o) vw l V w') (e : W.heap = w.heap) : w'.heap[D]? = some (.cells (dcs d vw vl) 87 (0, 0)) := by
  have e2 : W.heap.size = w.heap.size := by rw [e]
  have hl := h.lt
  rw [hi.2.1.block D (by simp; omega) (fun q => h.nw D q rfl), heap_alloc_old _ _ (by omega), e]
  exact h.blk
/-- And its list is laid into it. -/
theorem ins_put {D : Nat} {d : Ds} {vw vl V : Value} {w0 w W w' : World} {l : List Wr} {o : Obj} (h : DAt D d vw vl w) (hi : Insd (W.alloc o) vw l V w') (e : W.heap = w.heap) (hb : Below w0.heap.size w0 (W.alloc o)) :
    DAt D { d with ws := l } V vl (w'.setCell ⟨D, 0, none⟩ V) ∧ Only (fun k => k = D ∨ vw.ownBlock = some k) w0 (w'.setCell ⟨D, 0, none⟩ V) ∧ (∀ k, V.ownBlock = some k → vw.ownBlock = some k ∨ w0.heap.size ≤ k) := by
  have hls : w'.ownsRow 0 9 1 vl d.last.length (d.last.map S) := by
    refine owns_same h.ls (fun k hk => ?_)
    have e2 : W.heap.size = w.heap.size := by rw [e]
    have hl := owns_blk h.ls k hk
    rw [hi.2.1.block k (by simp; omega) (fun q => h.wl k q hk), heap_alloc_old _ _ (by omega), e]
  have hd : ∀ {n m : Nat} {t : Nat} {v : Value} {xs : List Value}, w'.ownsRow 0 t n v m xs → t ≠ 87 → ∀ k, v.ownBlock = some k → k ≠ D := by
    intro n m t v xs hv ht k hk q
    obtain ⟨cs, q2⟩ := owns_lt hv k hk
    rw [q, ins_facts h hi e] at q2
    cases q2
    exact ht rfl
  refine ⟨⟨?_, owns_only hi.1 (Only.setCell w' ⟨D, 0, none⟩ V) (hd hi.1 (by decide)), owns_only hls (Only.setCell w' ⟨D, 0, none⟩ V) (hd hls (by decide))⟩, ?_, fun k hk => ?_⟩
  · rw [heap_setCell_same w' D 0 _ 87 V (ins_facts h hi e)]
    rfl
  · exact ((Only.of_below hb).trans hi.2.1 (fun k _ q => Or.inr q)).put ⟨D, 0, none⟩ V (Or.inl (Or.inl rfl))
  · rcases hi.2.2 k hk with q | q
    · exact .inl q
    · exact .inr (Nat.le_trans hb.size q)
theorem put_any {D : Nat} {d : Ds} {vw vl : Value} {w : World} (h : DAt D d vw vl w) (ho : Ok d) (b : Nat) (s : Bs) (hs : s.length = 512) :
    Calls Try.prog 51 #[ptr D, I b, S s] w fun e w' => e = .returned (.tuple #[]) ∧ ∃ vw', DAt D (d.put b s) vw' vl w' ∧ Only (fun k => k = D ∨ vw.ownBlock = some k) w w' ∧ (∀ k, vw'.ownBlock = some k → vw.ownBlock = some k ∨ w.heap.size ≤ k) := by
  have H0 := hide (clone_any s w (by omega))
  have HD := hide h
  have HO := hide ho
  clear h ho
  go_enter Try.func51, Try.ntmps51
  go_wp2_with fail
  refine (unhide H0).mono ?_
  rintro e w1 ⟨rfl, b1⟩
  have h1 := (unhide HD).below b1
  have ba := b1.trans (((Below.refl w1.heap.size w1).alloc (Nat.le_refl _) (.cells #[I b, S s] 69)).mono b1.size)
  have h2 := (unhide HD).below ba
  have x2 := heap_alloc_new w1 (.cells #[I b, S s] 69)
  have hs1 : w.heap.size ≤ w1.heap.size := b1.size
  have H1 := hide (place_any h2 (unhide HO).srt (by have := (unhide HO).few; omega) b)
  have X2 := hide (And.intro ba x2)
  clear h1 h2 ba x2 b1 H0
  go_wp2_with fail
  refine (unhide H1).mono ?_
  clear H1
  rintro e w3 ⟨i, hp, rfl, b3⟩
  obtain ⟨ba, x2⟩ := unhide X2
  have b4 := ba.trans (b3.mono ba.size)
  have h3 := (unhide HD).below b4
  have x3 := (b3.block _ (lt_of_row x2)).trans x2
  have y0 : w3.cell? ⟨w1.heap.size, 0, none⟩ = some (I b) := cell_of_row w3 _ 0 _ 69 (0, 0) x3
  have y1 : w3.cell? ⟨w1.heap.size, 1, none⟩ = some (S s) := cell_of_row w3 _ 1 _ 69 (0, 0) x3
  obtain ⟨c0, c1, c2, c3, c4⟩ := h3.c
  have hl := h3.lt
  have hlx := lt_of_row x3
  cases hh : hit d.ws b i with
  | true =>
    obtain ⟨hi1, _⟩ : i < d.ws.length ∧ (d.ws.getD i (0, [])).1 = b := by simpa [hit] using hh
    obtain ⟨g, cap, cur, rfl, hg, _⟩ := owns_at h3.ws (by omega)
    have hi2 : (i : Int) < (d.ws.length : Int) := by omega
    obtain ⟨q0, q1⟩ := cellsW_at d.ws i hi1
    have u0 := owns_cell h3.ws _ _ q0
    have u1 := owns_cell h3.ws _ _ q1
    have o1 := owns_set h3.ws (i * 2) (I b)
    have o2 := owns_set o1 (i * 2 + 1) (S s)
    rw [cellsW_set d.ws i (b, s) hi1, putW_set d.ws b i s hp hh] at o2
    have hz0 := frz hg (i * 2)
    have hz1 := frz hg (i * 2 + 1)
    have hgl := lt_of_row hg
    have O3 : Only (fun k => k = D ∨ (Value.slice (some ⟨g, 0, none⟩) d.ws.length cap).ownBlock = some k) w ((w3.drew.setCell ⟨g, i * 2, none⟩ (I b)).setCell ⟨g, i * 2 + 1, none⟩ (S s)) :=
      ((Only.of_below (below_drew b4)).put ⟨g, i * 2, none⟩ (I b) (Or.inl (Or.inr rfl))).put ⟨g, i * 2 + 1, none⟩ (S s) (Or.inl (Or.inr rfl))
    have hD : DAt D (d.put b s) (.slice (some ⟨g, 0, none⟩) d.ws.length cap) vl ((w3.drew.setCell ⟨g, i * 2, none⟩ (I b)).setCell ⟨g, i * 2 + 1, none⟩ (S s)) := by
      have hgD := h3.nw g rfl
      have hgL := h3.wl g rfl
      refine ⟨?_, ?_, ?_⟩
      · rw [heap_setCell_other _ _ _ _ (fun q => hgD q.symm), heap_setCell_other _ _ _ _ (fun q => hgD q.symm)]
        exact h3.blk
      · have hlen : (putW d.ws b s).length = d.ws.length := by rw [← putW_set d.ws b i s hp hh]; simp
        show World.ownsRow _ 0 69 2 _ (putW d.ws b s).length _
        rw [hlen]
        exact o2
      · refine owns_same h3.ls (fun k hk => ?_)
        have hne : k ≠ g := fun q => hgL (by rw [← q]; exact hk)
        rw [heap_setCell_other _ _ _ _ hne, heap_setCell_other _ _ _ _ hne]
        rfl
    have HF := hide (And.intro hD O3)
    clear hD O3 o1 o2 q0 q1 hg h3 x3 b3 b4 ba x2 hp hh X2 HD HO
    generalize d.ws.length = n at *
    go_wp2
    go_region
    go_wp2
    refine bodyPost_ret (results_none rfl _ _ _) rfl ?_
    exact ⟨rfl, _, (unhide HF).1, (unhide HF).2, fun k hk => .inl hk⟩
  | false =>
    have hne : vw.ownBlock ≠ some w3.heap.size := fun q => by have := owns_blk h3.ws _ q; omega
    have hI := fun (W : World) (e : W.heap = w3.heap) => insert_any vw d.ws i (b, s) w3.heap.size (W.alloc (.cells #[I b, S s] 69)) (owns_alloc (owns_same h3.ws (fun k _ => by rw [e])) _) (by
      have := heap_alloc_new W (.cells #[I b, S s] 69)
      rwa [show W.heap.size = w3.heap.size by rw [e]] at this) (by have := (unhide HO).few; omega) hp.1 hne
    have HI := hide hI
    have HX := hide (And.intro h3 (And.intro b4 (putW_ins d.ws b i s hp hh)))
    obtain ⟨p, cap, rfl⟩ := owns_form h3.ws
    clear hI h3 x3 b3 b4 ba x2 hp hh X2 HD HO
    go_wp2
    go_region_with (refine (unhide HI w3.drew rfl).mono ?_; rintro e w5 ⟨V, rfl, hins⟩; obtain ⟨p5, cap5, rfl⟩ := owns_form hins.1; have x5 := ins_facts (unhide HX).1 hins rfl; have d5 := cell_of_row w5 D 0 _ 87 (0, 0) x5; have z5 := frz x5 0; have HV := hide hins; have e5 := lt_of_row x5; clear hins x5)
    all_goals go_end0
    all_goals
      obtain ⟨h3, b4, ep⟩ := unhide HX
      obtain ⟨r1, r2, r3⟩ := ins_put (w0 := w) h3 (unhide HV) rfl ((below_drew b4).alloc b4.size _)
      rw [ep] at r1 r2 r3 ⊢
      exact ⟨rfl, _, r1, r2, r3⟩
/-- Write. -/
def writev (d : Ds) (b : Int) (s : Bs) : Int := if s.length ≠ 512 then 81 else if reachv d b ≠ 0 then reachv d b else actv d
def Ds.write (d : Ds) (b : Int) (s : Bs) : Ds := if s.length ≠ 512 then d else if reachv d b ≠ 0 then d else if actv d ≠ 0 then d.act else d.act.put b.toNat s
theorem Ok.act {d : Ds} (h : Ok d) : Ok d.act := by
  unfold Ds.act
  split
  · exact ⟨h.srt, h.lt, h.sz, h.len, h.fuse⟩
  · refine ⟨h.srt, h.lt, h.sz, h.len, ?_⟩
    have := h.fuse
    show 0 ≤ max (d.fuse - 1) 0 ∧ max (d.fuse - 1) 0 ≤ 9223372036854775807
    omega
theorem act_last (d : Ds) : d.act.last = d.last := by unfold Ds.act; split <;> rfl
theorem act_ws (d : Ds) : d.act.ws = d.ws := by unfold Ds.act; split <;> rfl
theorem Ok.write {d : Ds} (h : Ok d) (b : Int) (s : Bs) : Ok (d.write b s) := by
  unfold Ds.write
  split
  · exact h
  · rename_i q
    split
    · exact h
    · rename_i r
      have hr := reach_ok (show reachv d b = 0 by simpa using r)
      split
      · exact h.act
      · exact h.act.put (by rw [act_last]; omega) (by simpa using q)
end Go.Proofs.Ytpelmacblglhoaa
namespace Go.Proofs.Ytpelmacblglhoaa
open Go.RowKit
set_option maxHeartbeats 4000000
set_option maxRecDepth 8000
theorem write_any {D : Nat} {d : Ds} {vw vl : Value} {w : World} (h : DAt D d vw vl w) (ho : Ok d) (ha : 0 ≤ d.acts ∧ d.acts ≤ 1000000000000000000) (b : Int) (s : Bs) :
    Calls Try.prog 26 #[ptr D, I b, S s] w fun e w' => e = .returned (I (writev d b s)) ∧ ∃ vw', DAt D (d.write b s) vw' vl w' ∧ Only (fun k => k = D ∨ vw.ownBlock = some k) w w' ∧ (∀ k, vw'.ownBlock = some k → vw.ownBlock = some k ∨ w.heap.size ≤ k) := by
  have H0 := hide (fun W => wrongSize_any s W)
  have H1 := hide (reach_any h b)
  have H2 := hide (act_any h ho.fuse ha)
  have HD := hide h
  have HO := hide ho
  unfold writev Ds.write
  clear h ho ha
  by_cases hs : s.length = 512
  · have e0 : decide (s.length ≠ 512) = false := by simp [hs]
    have n0 : ¬ s.length ≠ 512 := by simpa using hs
    rw [e0] at H0
    rw [if_neg n0, if_neg n0]
    by_cases hr : reachv d b = 0
    · obtain ⟨r1, r2, r3⟩ := reach_ok hr
      have n1 : ¬ reachv d b ≠ 0 := by simpa using hr
      rw [if_neg n1, if_neg n1]
      rw [hr] at H1
      clear n0 n1
      obtain ⟨c, rfl⟩ : ∃ c : Nat, b = (c : Int) := ⟨b.toNat, by omega⟩
      by_cases ht : actv d = 0
      · rw [ht] at H2
        have n2 : ¬ actv d ≠ 0 := by simpa using ht
        rw [if_neg n2, ht]
        simp only [Int.toNat_natCast]
        clear n2
        go_enter Try.func26, Try.ntmps26
        go_wp2_with fail
        refine (unhide H0 _).mono ?_
        rintro e w0 ⟨rfl, rfl⟩
        go_wp2_with fail
        refine (unhide H1).mono ?_
        rintro e w0 ⟨rfl, rfl⟩
        go_wp2_with fail
        refine (unhide H2).mono ?_
        rintro e w2 ⟨rfl, h2, o2⟩
        have hl2 := h2.lt
        have H3 := hide (put_any h2 (unhide HO).act c s hs)
        have O2 := hide o2
        clear h2 o2
        go_wp2_with fail
        refine (unhide H3).mono ?_
        rintro e w3 ⟨rfl, vw', h3, o3, n3⟩
        have HF := hide (And.intro h3 (And.intro (((unhide O2).mono (Q := fun k => k = D ∨ vw.ownBlock = some k) (fun _ _ q => Or.inl q)).trans o3 (fun _ _ q => q)) (fun k hk => (n3 k hk).imp id (fun q => Nat.le_trans (unhide O2).size q))))
        clear h3 o3 n3
        go_wp2
        go_ret
        exact ⟨rfl, vw', unhide HF⟩
      · have n2 : actv d ≠ 0 := ht
        rw [if_pos n2]
        generalize actv d = r at *
        go_enter Try.func26, Try.ntmps26
        go_wp2_with fail
        refine (unhide H0 _).mono ?_
        rintro e w0 ⟨rfl, rfl⟩
        go_wp2_with fail
        refine (unhide H1).mono ?_
        rintro e w0 ⟨rfl, rfl⟩
        go_wp2_with fail
        refine (unhide H2).mono ?_
        rintro e w2 ⟨rfl, h2, o2⟩
        have HF := hide (And.intro h2 (o2.mono (Q := fun k => k = D ∨ vw.ownBlock = some k) (fun _ _ q => Or.inl q)))
        clear h2 o2
        go_wp2
        go_ret
        exact ⟨rfl, vw, (unhide HF).1, (unhide HF).2, fun k hk => .inl hk⟩
    · have n1 : reachv d b ≠ 0 := hr
      rw [if_pos n1, if_pos n1]
      clear n1 n0
      generalize reachv d b = r at *
      go_enter Try.func26, Try.ntmps26
      go_wp2_with fail
      refine (unhide H0 _).mono ?_
      rintro e w0 ⟨rfl, rfl⟩
      go_wp2_with fail
      refine (unhide H1).mono ?_
      rintro e w0 ⟨rfl, rfl⟩
      go_wp2
      go_ret
      exact ⟨rfl, vw, unhide HD, Only.refl _ _, fun k hk => .inl hk⟩
  · have e0 : decide (s.length ≠ 512) = true := by simp [hs]
    have n0 : s.length ≠ 512 := hs
    rw [e0] at H0
    rw [if_pos n0, if_pos n0]
    clear n0
    go_enter Try.func26, Try.ntmps26
    go_wp2_with fail
    refine (unhide H0 _).mono ?_
    rintro e w0 ⟨rfl, rfl⟩
    go_wp2
    go_ret
    exact ⟨rfl, vw, unhide HD, Only.refl _ _, fun k hk => .inl hk⟩
end Go.Proofs.Ytpelmacblglhoaa
