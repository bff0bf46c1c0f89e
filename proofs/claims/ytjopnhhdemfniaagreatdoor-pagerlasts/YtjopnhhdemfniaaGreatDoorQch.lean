import Derived.Test.YtjopnhhdemfniaaGreatDoorZqba
import Derived.Test.YtjopnhhdemfniaaGreatDoorZqcc
/- Pure: a turn of the law's on a disk that may die, and what a crash leaves then. -/
namespace Go.Proofs.YtjopnhhdemfniaaGreatDoor
open Go.RowKit
set_option maxHeartbeats 4000000
variable {m : Nat} {g root : Int} {nt : Bs} {ps : List Pg} {last : List Bs} {p : Pr}
def mkp (m : Nat) (g root : Int) (nt : Bs) (ps : List Pg) : Pr := ⟨⟨g, root, m, nt⟩, mks ps m, 0, false⟩
theorem Std.hds (h : Std m g root nt ps last) : Hds m g root ps [] last (mkp m g root nt ps) := by
  refine ⟨h.dl, h.d5, by simp [mkp, mks], h.m8, rfl, rfl, rfl, rfl, h.hm, h.gn, fun n hn => ?_, rfl, List.Pairwise.nil, (fun _ hx => nomatch hx), fun x hx => ?_, h.srt, ?_⟩
  · have : (mkp m g root nt ps).use.getD n 0 = if mem ps n = true then 1 else 0 := by simp [mkp, mks, hn]
    rw [this]
    cases mem ps n <;> simp [uw, uv, pbn]
  · rcases hx with q | ⟨y, hy, _⟩
    · obtain ⟨a, b, c, _, e⟩ := h.pg x q
      exact ⟨a, b, c, e⟩
    · cases hy
  · by_cases q : root = 0
    · exact .inl q
    · obtain ⟨x, hx, e⟩ := List.mem_map.1 (h.tr.mem.1 q)
      exact .inr ⟨x, hx, e⟩
theorem Std.few (h : Std m g root nt ps last) : ps.length ≤ 4096 := by
  have := few_of ps 0 m (fun x hx => by have := h.pg x hx; omega) h.srt (by omega)
  have h8 := h.m8
  omega
/-- Heads and pages as they were: the state stands. -/
theorem Std.keep (h : Std m g root nt ps last) {last2 : List Bs} (hl : last2.length = m) (h5 : ∀ x ∈ last2, x.length = 512) (h0 : phr (last2.getD (g % 2).toNat []) = phr (last.getD (g % 2).toNat [])) (h1 : phr (last2.getD ((g + 1) % 2).toNat []) = phr (last.getD ((g + 1) % 2).toNat [])) (hp : ∀ n, 2 ≤ n → n < m → mem ps n = true → last2.getD n [] = last.getD n []) : Std m g root nt ps last2 := by
  refine ⟨hl, h5, h.m8, h.gn, h.hm, h0.trans h.hd, fun x hx => h.ot x (h1 ▸ hx), fun x hx => ?_, h.srt, h.tr⟩
  obtain ⟨a, b, c, d, e⟩ := h.pg x hx
  exact ⟨a, b, c, d, (hp _ (by omega) (by omega) (mem_iff.2 ⟨x, hx, by omega⟩)).trans e⟩
theorem usd_nil (ps : List Pg) (n : Nat) : usd ps [] n = mem ps n := by simp [usd, pbn]
/-- What a turn comes to on a disk with a fuse. -/
def Outc (m : Nat) (g root : Int) (nt : Bs) (ps : List Pg) (a : Int) (p : Pr) (F : List Pg) (rt : Int) (nt' : Bs) (G : List Int) (ps' : List Pg) (d : Ds) : Prop :=
  (∃ last' f' a' p', cmr d p F rt nt' G = (0, ⟨[], last', f', false, a'⟩, p') ∧ Hds m (g + 1) rt ps' [] last' p' ∧ Std m (g + 1) rt nt' ps' last' ∧ p'.h.note = nt' ∧ 0 ≤ f' ∧ a ≤ a' ∧ a' ≤ a + 10) ∨
  (∃ d', cmr d p F rt nt' G = (2, d', { p with doubt := true }) ∧ d'.dead = true ∧ a ≤ d'.acts ∧ d'.acts ≤ a + 10 ∧ ∀ st, Std m g root nt ps (crs d'.last d'.ws st d'.ws.length) ∨ Std m (g + 1) rt nt' ps' (crs d'.last d'.ws st d'.ws.length))
theorem cmr_alive {p : Pr} {F : List Pg} {rt : Int} {nt' : Bs} {G : List Int} {d1 : Ds} {p' : Pr} {a f : Int} (hc : cmr (Lv [] last a) p F rt nt' G = (0, d1, p')) : p' = { p.ask (Lv [] last a) with h := nxh p rt nt', use := after p.use (F.map Pg.number) G } ∧ trv (Lv [] last a) F (nxh p rt nt') = 0 ∧ trd (Lv [] last a) F (nxh p rt nt') = d1 ∧
    cmr ⟨[], last, f, false, a⟩ p F rt nt' G = (trv ⟨[], last, f, false, a⟩ F (nxh p rt nt'), trd ⟨[], last, f, false, a⟩ F (nxh p rt nt'), if trv ⟨[], last, f, false, a⟩ F (nxh p rt nt') = 0 then p' else { p.ask (Lv [] last a) with doubt := true }) := by
  have e1 : askv ⟨[], last, f, false, a⟩ p = askv (Lv [] last a) p := rfl
  have e2 : p.ask ⟨[], last, f, false, a⟩ = p.ask (Lv [] last a) := rfl
  rw [cmr_eq] at hc ⊢
  rw [e1, e2]
  have n1 : ∀ (z : Int) (x y : Ds) (u v : Pr), z ≠ 0 → (z, x, u) ≠ (0, y, v) := fun z x y u v hz e => hz (congrArg Prod.fst e)
  by_cases c1 : nt'.length ≠ 16
  · rw [if_pos c1] at hc; exact absurd hc (n1 _ _ _ _ _ (by omega))
  rw [if_neg c1] at hc ⊢
  by_cases c2 : (F.all Pg.fresh && rsg (F.map Pg.number) && rsg G) = false
  · rw [if_pos c2] at hc; exact absurd hc (n1 _ _ _ _ _ (by omega))
  rw [if_neg c2] at hc ⊢
  by_cases c3 : askv (Lv [] last a) p ≠ 0
  · rw [if_pos c3] at hc; exact absurd hc (n1 _ _ _ _ _ c3)
  rw [if_neg c3] at hc ⊢
  by_cases c4 : (decide (F.map Pg.number = (sel (p.ask (Lv [] last a)).use frb).take F.length) && G.all (hasv (p.ask (Lv [] last a)).use · 1)) = false
  · rw [if_pos c4] at hc; exact absurd hc (n1 _ _ _ _ _ (by omega))
  rw [if_neg c4] at hc ⊢
  by_cases c5 : clo (after (p.ask (Lv [] last a)).use (F.map Pg.number) G) F rt = false
  · rw [if_pos c5] at hc; exact absurd hc (n1 _ _ _ _ _ (by omega))
  rw [if_neg c5] at hc ⊢
  by_cases c6 : (p.ask (Lv [] last a)).h.gen = 4611686018427387904
  · rw [if_pos c6] at hc; exact absurd hc (n1 _ _ _ _ _ (by omega))
  rw [if_neg c6] at hc ⊢
  have ht := congrArg Prod.fst hc
  simp only at ht
  rw [if_pos ht] at hc
  have hd := congrArg (fun x => x.2.1) hc
  have hp := congrArg (fun x => x.2.2) hc
  simp only at hd hp
  refine ⟨hp.symm, ht, hd, ?_⟩
  rw [← hp]
  rfl
theorem Std.turn (h : Std m g root nt ps last) (H : Hds m g root ps [] last p) (a f : Int) (hf : 0 ≤ f) (how c : Int) (k : Nat) (h1 : 1 ≤ k) (h5 : k ≤ 5) (hk : k ≤ (fre m ps []).length) (hgen : g ≤ 1000000000000) (ps' : List Pg) (fr : List Int) (hfr : fr = (fre m ps []).take k) (rt : Int) (hrt : rt = if pkv how 5 ≤ 3 then fr.getD (fr.length - 1) 0 else root)
    (hp : ps'.Perm (if gns how ps = [] then frs how fr root c (g + 1) ++ ps else frs how fr root c (g + 1))) (hs : ps'.Pairwise (fun x y => x.number ≤ y.number)) : Outc m g root nt ps a p (frs how fr root c (g + 1)) rt (nte c) (gns how ps) ps' ⟨[], last, f, false, a⟩ := by
  obtain ⟨last1, p1, hc, hd', hu⟩ := H.turn a how c k h1 h5 hk hgen ps' fr hfr rt hrt hp hs
  obtain ⟨ep, etv, etd, ecm⟩ := cmr_alive (f := f) hc
  rw [H.ask] at ep ecm
  have hm8 := h.m8
  have hfl : fr.length = k := by rw [hfr, List.length_take]; omega
  have hfm : ∀ z ∈ fr, ∃ n : Nat, z = (n : Int) ∧ 2 ≤ n ∧ n < m ∧ mem ps n = false := fun z hz => by
    rw [hfr] at hz
    obtain ⟨n, e1, e2, e3, e4⟩ := fre_mem (List.mem_of_mem_take hz)
    rw [usd_nil] at e4
    exact ⟨n, e1, e2, e3, e4⟩
  have hfs : fr.Pairwise (· < ·) := by rw [hfr]; exact (fre_sorted m ps []).sublist (List.take_sublist _ _)
  have htr : Tre rt ps' := tre_next h.tr how c g fr rt hrt (by omega) hfs (fun z hz => by
      obtain ⟨n, e1, e2, e3, e4⟩ := hfm z hz
      refine ⟨by omega, by omega, fun q => ?_⟩
      obtain ⟨x, hx, e⟩ := List.mem_map.1 q
      rw [mem_iff.2 ⟨x, hx, by omega⟩] at e4
      cases e4) (fun x hx => by have := h.pg x hx; omega) hp
  have hbp := frs_birth how fr root c (g + 1)
  have hFn : ∀ x ∈ frs how fr root c (g + 1), x.number ∈ fr := fun x hx => by
    obtain ⟨hl, _⟩ := frs_mem (by omega) hx
    rw [← frs_num how fr root c (g + 1) hl (by omega)]
    exact List.mem_map_of_mem hx
  have hFl : (frs how fr root c (g + 1)).length ≤ 5 := by
    by_cases q : pkv how 5 ≤ 3
    · have := congrArg List.length (frs_num how fr root c (g + 1) q (by omega))
      rw [List.length_map] at this
      omega
    · rw [frs_high _ _ _ _ _ q]
      simp
  have hFp : ∀ x ∈ frs how fr root c (g + 1), x ∈ ps' := fun x hx => hp.mem_iff.2 (by
    split
    · exact List.mem_append.2 (.inl hx)
    · exact hx)
  have hPp : ∀ x ∈ ps', x.birth ≤ g + 1 := fun x hx => by
    have hx' := hp.mem_iff.1 hx
    have : x ∈ frs how fr root c (g + 1) ∨ x ∈ ps := by
      split at hx'
      · exact List.mem_append.1 hx'
      · exact .inl hx'
    rcases this with q | q
    · rw [hbp x q]; exact Int.le_refl _
    · have := h.pg x q; omega
  generalize frs how fr root c (g + 1) = F at *
  obtain ⟨x, hx⟩ : ∃ x, nxh p rt (nte c) = x := ⟨_, rfl⟩
  have hxe : x = ⟨g + 1, rt, m, nte c⟩ := by rw [← hx]; unfold nxh; rw [H.hg, H.hb]
  have hph : p1.h = x := by rw [ep, ← hx]
  have hxm : x.may = true := by rw [← hph]; exact hd'.hm
  have hxg : x.gen = g + 1 := by rw [hxe]
  rw [hx] at etv etd ecm
  have hF : ∀ y ∈ F, (y.born x.gen).may = true ∧ 0 ≤ y.number ∧ y.number < last.length := fun y hy => by
    have hq := hd'.pg y (.inl (hFp y hy))
    have hb : y.born x.gen = y := by
      have := hbp y hy
      rw [hxg, ← this]
      rfl
    rw [hb, h.dl]
    exact ⟨hq.1, by omega, by omega⟩
  have hFoff : ∀ n : Nat, (n < 2 ∨ mem ps n = true) → ∀ y ∈ F, y.number.toNat ≠ n := fun n hn y hy e => by
    obtain ⟨z, e1, e2, e3, e4⟩ := hfm _ (hFn y hy)
    have : z = n := by omega
    subst this
    rcases hn with q | q
    · omega
    · rw [q] at e4; cases e4
  obtain ⟨L1, hL1⟩ : ∃ L1, L1 = snc last (ptl x.gen [] F) (ptl x.gen [] F).length := ⟨_, rfl⟩
  have s0 : Srt ([] : List Wr) := fun i j _ hj => absurd hj (by simp)
  have lt1 : ∀ y ∈ ptl x.gen [] F, y.1 < last.length := ptl_lt _ _ F [] (fun x hx => by cases hx) (fun y hy => by have := hF y hy; omega)
  have l1len : L1.length = m := by rw [hL1, snc_len, h.dl]
  have c1 : ∀ n, L1.getD n [] = (fnd (ptl x.gen [] F) n).getD (last.getD n []) := fun n => by rw [hL1]; exact lv_cur_sync _ _ (ptl_srt _ F [] s0) lt1 n
  have c2 : ∀ n : Nat, (n < 2 ∨ mem ps n = true) → L1.getD n [] = last.getD n [] := fun n hn => by
    rw [c1 n, ptl_off x.gen n F [] (hFoff n hn)]
    rfl
  obtain ⟨b, hb⟩ : ∃ b : Nat, b = ((g + 1) % 2).toNat := ⟨_, rfl⟩
  have hb2 : b < 2 := by omega
  have hl1 : last1 = L1.set b x.blk := by
    have e1 := wps_lv x.gen F [] last a hF
    rw [← hL1] at e1
    unfold trv at etv
    unfold trd at etd
    rw [e1, if_neg (by simp)] at etv etd
    simp only at etv etd
    rcases wrh_or x hxm L1 0 (a + F.length + 1) (by omega) (by omega) with ⟨f', a', q1, q2, _⟩ | ⟨ws', f', a', q1, _⟩
    · have q3 := q2.symm.trans etd
      have := congrArg Ds.last q3
      simp only [Lv] at this
      rw [← this, hxg, hb]
    · have := q1.symm.trans etv
      omega
  have h15 : ∀ y ∈ L1, y.length = 512 := fun y hy => by
    obtain ⟨i, hi, rfl⟩ := List.getElem_of_mem hy
    by_cases q : i = b
    · subst q
      have := c2 i (.inl hb2)
      rw [List.getD_eq_getElem?_getD, List.getElem?_eq_getElem hi, Option.getD_some] at this
      rw [this]
      exact h.d5 _ (mem_getD (by rw [h.dl]; omega))
    · have : L1[i] = last1[i]'(by rw [hl1, List.length_set]; exact hi) := by
        simp [hl1, Ne.symm q]
      rw [this]
      exact hd'.d5 _ (List.getElem_mem _)
  have hblk : x.blk.length = 512 := Hd.blk_len (Hd.may_note hxm)
  have hgb : (g % 2).toNat ≠ b ∧ (g % 2).toNat < 2 := by omega
  have hold : Std m g root nt ps L1 := h.keep l1len h15 (by rw [c2 _ (.inl hgb.2)]) (by rw [c2 _ (.inl (by omega))]) (fun n _ _ q => c2 n (.inr q))
  have hnew : ∀ v : Bs, v.length = 512 → phr v = (x, 0) → Std m (g + 1) rt (nte c) ps' (L1.set b v) := fun v hv hpv => by
    refine ⟨by rw [List.length_set]; exact l1len, set_sz h15 hv, hm8, by have := h.gn; omega, by rw [← hxe]; exact hxm, ?_, ?_, fun y hy => ?_, hd'.srt, htr⟩
    · rw [← hb, ← hxe, ← hpv]
      simp [List.getD_eq_getElem?_getD, show b < L1.length by omega]
    · intro y hy e1 e2
      have e3 : ((g + 1 + 1) % 2).toNat = (g % 2).toNat := by omega
      rw [e3, List.getD_eq_getElem?_getD, List.getElem?_set_ne (Ne.symm hgb.1), ← List.getD_eq_getElem?_getD, c2 _ (.inl hgb.2), h.hd] at hy
      have := congrArg Prod.fst hy
      simp only at this
      rw [← this]
      show g < g + 1
      omega
    · obtain ⟨q1, q2, q3, q4⟩ := hd'.pg y (.inl hy)
      refine ⟨q1, q2, q3, hPp y hy, ?_⟩
      rw [← q4, hl1]
      rw [List.getD_eq_getElem?_getD, List.getElem?_set_ne (by omega), List.getD_eq_getElem?_getD, List.getElem?_set_ne (by omega)]
  unfold Outc
  rw [ecm]
  unfold trv trd
  rcases wps_or x.gen F [] last f a hf hF with ⟨f', a', e1, e2, e3, e4⟩ | ⟨ws', f', a', e1, e2, e3, e4⟩
  · rw [e1, if_neg (by simp), if_neg (by simp)]
    simp only
    rw [← hL1]
    rcases wrh_or x hxm L1 f' a' e2 (by omega) with ⟨f2, a2, q1, q2, q3, q4, q5⟩ | ⟨ws2, f2, a2, q1, q2, q3, q4, q5⟩
    · left
      rw [q1, q2, if_pos rfl, hxg, ← hb, ← hl1]
      refine ⟨last1, f2, a2, p1, rfl, hd', ?_, by rw [hph, hxe], q3, by omega, by omega⟩
      rw [hl1]
      exact hnew x.blk hblk (by unfold phr; rw [phd_blk hxm])
    · right
      rw [q1, q2, if_neg (by simp)]
      refine ⟨_, rfl, rfl, by show a ≤ a2; omega, by show a2 ≤ a + 10; omega, fun st => ?_⟩
      show Std m g root nt ps (crs L1 ws2 st ws2.length) ∨ Std m (g + 1) rt (nte c) ps' (crs L1 ws2 st ws2.length)
      rcases q3 with q3 | q3
      · rw [q3]
        exact .inl hold
      · rw [q3, hxg, ← hb]
        have ec : crs L1 [(b, x.blk)] st [(b, x.blk)].length = L1.set b (tornv (L1.getD b []) x.blk ((st.getD 0 none).getD 0)) := rfl
        rw [ec]
        have hlb : (L1.getD b []).length = 512 := h15 _ (mem_getD (by omega))
        generalize (st.getD 0 none).getD 0 = kk
        rcases phr_torn (L1.getD b []) x.blk kk hlb hblk with q | q
        · left
          refine hold.keep (by rw [List.length_set]; exact l1len) (set_sz h15 (tornv_len _ _ _ hlb hblk)) ?_ ?_ (fun n n2 _ _ => ?_)
          · rw [List.getD_eq_getElem?_getD, List.getElem?_set_ne (Ne.symm hgb.1), ← List.getD_eq_getElem?_getD]
          · rw [← hb, ← q]
            congr 1
            simp [List.getD_eq_getElem?_getD, show b < L1.length by omega]
          · rw [List.getD_eq_getElem?_getD, List.getElem?_set_ne (by omega), ← List.getD_eq_getElem?_getD]
        · right
          exact hnew _ (tornv_len _ _ _ hlb hblk) (by rw [q]; unfold phr; rw [phd_blk hxm])
  · right
    rw [e1, if_pos (by simp), if_pos (by simp)]
    simp only
    rw [if_neg (by simp)]
    refine ⟨_, rfl, rfl, by show a ≤ a'; omega, by show a' ≤ a + 10; omega, fun st => .inl ?_⟩
    show Std m g root nt ps (crs last ws' st ws'.length)
    have hw : ∀ y ∈ ws', ∃ z ∈ F, y = (z.number.toNat, (z.born x.gen).blk) := fun y hy => (e2 y hy).elim (fun q => nomatch q) id
    have hoff : ∀ n : Nat, (n < 2 ∨ mem ps n = true) → (crs last ws' st ws'.length).getD n [] = last.getD n [] := fun n hn => crs_off last ws' st n (fun y hy e => by
      obtain ⟨z, hz, q⟩ := hw y hy
      rw [q] at e
      exact hFoff n hn z hz e) _ (Nat.le_refl _)
    refine h.keep (by rw [crs_len, h.dl]) (crs_sz st h.d5 (fun y hy => ?_) _ (Nat.le_refl _)) (by rw [hoff _ (.inl hgb.2)]) (by rw [hoff _ (.inl (by omega))]) (fun n _ _ q => hoff n (.inr q))
    obtain ⟨z, hz, q⟩ := hw y hy
    have := hF z hz
    rw [q]
    exact ⟨by show z.number.toNat < last.length; omega, Pg.blk_len this.1⟩
end Go.Proofs.YtjopnhhdemfniaaGreatDoor
