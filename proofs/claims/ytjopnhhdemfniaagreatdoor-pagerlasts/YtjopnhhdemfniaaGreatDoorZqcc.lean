import Derived.Test.YtjopnhhdemfniaaGreatDoorQca
import Derived.Test.YtjopnhhdemfniaaGreatDoorZqba
import Derived.Test.YtjopnhhdemfniaaGreatDoorQbq
import Derived.Test.YtjopnhhdemfniaaGreatDoorZpic
import Derived.Deep.LoopGhost
/- What a head reaches, where each page is named once. -/
namespace Go.Proofs.YtjopnhhdemfniaaGreatDoor
open Go.RowKit
set_option maxHeartbeats 8000000
set_option maxRecDepth 8000
theorem appI_all (T : TypeId) (v : Value) (L M : List Int) (w : World) (h : w.ownsRow 0 3 1 v L.length (L.map fun z => I z)) (q : Option Addr) (c : Nat) (hM : Ins w q M.length M) (hn : L.length + M.length ≤ 1000000000) :
    ∃ v' w', (Builtin.append_ #[22, 22] T #[v, .slice q M.length c]).run Tryz.prog w = .ok v' w' ∧ w'.ownsRow 0 3 1 v' (L ++ M).length ((L ++ M).map fun z => I z) ∧ Only (fun k => v.ownBlock = some k) w w' ∧ (∀ k, v'.ownBlock = some k → v.ownBlock = some k ∨ w.heap.size ≤ k) := by
  by_cases h0 : M.length = 0
  · have e : M = [] := List.length_eq_zero_iff.1 h0
    subst e
    have hv : ∃ p cap, v = .slice p L.length cap ∧ L.length ≤ cap := by
      rcases h.2 with ⟨e, q⟩ | ⟨g, cap, cur, e1, _, e2, e3, _⟩
      · exact ⟨none, 0, by rw [e, q], by omega⟩
      · exact ⟨_, cap, e1, e3⟩
    obtain ⟨p, cap, e, hc⟩ := hv
    refine ⟨v, w, by rw [e]; exact app22_e T p q L.length cap c hc w, by rw [List.append_nil]; exact h, Only.refl _ _, fun k hk => .inl hk⟩
  · obtain ⟨g, o, e, hc⟩ := hM.2 (by omega)
    subst e
    obtain ⟨i0, hi, hz0, hz1, hz2⟩ := info_parts info3
    obtain ⟨v', w', hr, h2, h3, _, h5⟩ := run_append_own_at (P := Tryz.prog) w 0 22 T 3 i0 _ 1 8 Tryz.underlying22 hi hz0 hz1 hz2 rfl (by decide) v L.length (L.map fun z => I z) h ⟨g, o, none⟩ M.length c (M.map fun z => I z) (by simp) (fun j u hj => by
      rw [WideShapes.add_plain]
      obtain ⟨hj1, hj2⟩ := List.getElem?_eq_some_iff.1 hj
      rw [List.length_map] at hj1
      have := hc j hj1
      rw [this, ← hj2]
      simp [hj1]) (by intro u hu; obtain ⟨z, _, rfl⟩ := List.mem_map.1 hu; rfl) (by unfold maxLen; omega) (by omega) (Nat.zero_le _)
    refine ⟨v', w', hr, ?_, Only.of_grown h3, ?_⟩
    · rw [List.length_append, List.map_append]
      exact h2
    · intro k hk
      rcases h5 with h5 | h5
      · left; rw [← h5]; exact hk
      · right; rw [hk] at h5; have := Option.some.inj h5; omega
theorem wp_appI {ops : Array Oper} {rest : List Oper} {o : Oper} {act : Act} {Q : Exit → Act → World → Prop} (hgd : o.guard = none) (s x : Operand) (ho : o.op = .call { callee := .builtin .append, args := #[s, x], argTypes := #[22, 22] }) (v : Value) (L M : List Int) (w : World) (hs : act.eval s = v) (h : w.ownsRow 0 3 1 v L.length (L.map fun z => I z)) (q : Option Addr) (c n : Nat) (hx : act.eval x = .slice q n c) (hl : M.length = n) (hM : Ins w q M.length M) (hn : L.length + M.length ≤ 1000000000)
    (hK : ∀ v' w', w'.ownsRow 0 3 1 v' (L ++ M).length ((L ++ M).map fun z => I z) → Only (fun k => v.ownBlock = some k) w w' → (∀ k, v'.ownBlock = some k → v.ownBlock = some k ∨ w.heap.size ≤ k) → wpList Tryz.prog ops Q rest (act.put o.dst v') w') : wpList Tryz.prog ops Q (o :: rest) act w := by
  obtain ⟨v', w', hr, h2, h3, h4⟩ := appI_all o.type v L M w h q c hM hn
  rw [hl] at hr
  refine wpList_plain hgd fun K hK2 => ?_
  unfold Oper.wp execOp
  simp only [ho, resolve, invoke, builtin, Sem.run_bind, Sem.run_pure, Result.andThen_ok, List.map_toArray, List.map_cons, List.map_nil, hs, hx, hr]
  exact hK2 _ _ (hK v' w' h2 h3 h4)
theorem s_sl22 (g n cap k : Nat) (hk : k ≤ n) (hn : n ≤ cap) (w : World) : (Instr.sliceAt 22 (.slice (some ⟨g, 0, none⟩) n cap) none (some (.int .i64 (k : Int))) none).run Tryz.prog w = .ok (.slice (some ⟨g, 0, none⟩) k cap) w := by
  have u := Tryz.underlying22
  have z := Tryz.sizeOf3
  have h1 : (k : Int) ≤ (cap : Int) := by omega
  simp [Instr.sliceAt, go_sem, u, z, h1]
theorem row_shrink {w : World} {g n cap k : Nat} {L : List Int} (h : w.ownsRow 0 3 1 (.slice (some ⟨g, 0, none⟩) n cap) n (L.map fun z => I z)) (hk : k ≤ n) : w.ownsRow 0 3 1 (.slice (some ⟨g, 0, none⟩) k cap) k ((L.take k).map fun z => I z) := by
  have hl := h.1
  rcases h.2 with ⟨e, _⟩ | ⟨g', cap', cur, e1, e0, e2, e3, e4, e5, e6⟩
  · cases e
  · cases e1
    rw [List.length_map, Nat.mul_one] at hl
    refine ⟨by simp; omega, .inr ⟨g, cap, cur, rfl, e0, e2, by omega, e4, e5, ?_⟩⟩
    rw [List.map_take, ← e6, List.take_take, Nat.mul_one, Nat.mul_one, Nat.min_eq_left hk]
def mks (ps : List Pg) (m : Nat) : Us := (List.range m).map fun n => if mem ps n = true then 1 else 0
theorem mks_nil (m : Nat) : mks [] m = List.replicate m 0 := by
  apply List.ext_getElem
  · simp [mks]
  · intro i h1 h2
    simp [mks, mem]
/-- What stands while what a head reaches is gone over. -/
structure Rch (ps : List Pg) (m : Nat) (w w1 : World) (gu cu : Nat) (k : Nat) (V : Value) (S : List Int) (U : List Pg) (us : Us) (W : World) : Prop where
  kk : U.length = k
  ub : U.length ≤ 4096
  dfs : Dfs ps S U
  row : W.ownsRow 0 3 1 V S.length (S.map fun z => I z)
  nw : ∀ b, V.ownBlock = some b → w1.heap.size ≤ b
  uls : Uls W (.slice (some ⟨gu, 0, none⟩) m cu) us
  ul : us.length = m
  mrk : ∀ n, n < m → us.getD n 0 = if (mem ps n && !mem U n) = true then 1 else 0
  bel : Below w.heap.size w W
  be1 : Only (fun k => k = gu) w1 W
theorem reachT_any {D : Nat} {d : Ds} {vw vl : Value} {w : World} (h : DAt D d vw vl w) (ho : Ok d) (g root : Int) (nt : Bs) (ps : List Pg) (m : Nat) (hm : d.last.length = m) (hdead : d.dead = false)
    (hps : ∀ x ∈ ps, x.may = true ∧ 2 ≤ x.number ∧ x.number < m ∧ x.birth ≤ g ∧ cur d x.number.toNat = x.blk) (hnd : (ps.map Pg.number).Nodup) (hpl : ps.length ≤ 4096) (ht : Tre root ps) :
    Calls Tryz.prog 109 #[ptr D, .agg #[I g, I root, I m, S nt]] w fun e w' => ∃ vu, e = .returned (.tuple #[vu, .bool true]) ∧ Uls w' vu (mks ps m) ∧ (∀ k, vu.ownBlock = some k → w.heap.size ≤ k) ∧ Below w.heap.size w w' := by
  have hlen := ho.len
  by_cases hr0 : root = 0
  · subst hr0
    have hz : ps = [] := Dfs.done ht (Dfs.begin ht hnd)
    subst hz
    rw [mks_nil]
    exact reach0_any g m nt w m rfl (by omega)
  have hPO := fun (W : World) (b : Below w.heap.size w W) (x : Pg) (hx : x ∈ ps) => pageOn_ok (h.below b) ho x.number x (by
      have := hps x hx
      unfold reachv
      rw [if_neg (by rw [hdead]; simp), if_neg (by omega), if_neg (by omega)]) (by
      have hq := hps x hx
      unfold readS
      rw [if_pos (by unfold reachv; rw [if_neg (by rw [hdead]; simp), if_neg (by omega), if_neg (by omega)]), hq.2.2.2.2]
      unfold prp
      rw [prs_blk hq.1]) rfl
  have HPO := hide hPO
  have HPS := hide hps
  have HND := hide hnd
  have HT := hide ht
  clear hPO hps hnd ht h ho hdead
  have HB := hide ((Below.refl w.heap.size w).alloc (Nat.le_refl _) (.cells #[I g, I root, I m, S nt] 123))
  have HG := hide (heap_alloc_new w (.cells #[I g, I root, I m, S nt] 123))
  have hm0 : (0 : Int) ≤ (m : Int) := by omega
  have hm8 : m ≤ 4096 := by omega
  have hm1 : 8 ≤ m := by omega
  clear hlen hm
  go_enter Tryz.func109, Tryz.ntmps109
  go_wp2_with (first | (refine make_own 168 5 _ 1 1 Tryz.underlying168 info5 rfl (.tmp 12) (.tmp 12) rfl _ _ m (by rfl) (by rfl) rfl rfl (by omega) (by omega) ?_; intro w1 ho1 b1 l1; have c1 := box4 (unhide HG) b1 (lt_of_row (unhide HG)); obtain ⟨d0, d1, d2, d3⟩ := c1; have HO := hide ho1; have HB1 := hide ((unhide HB).trans (b1.mono (unhide HB).size)); have HG1 := hide ((b1.block _ (lt_of_row (unhide HG))).trans (unhide HG)); clear ho1 b1) | (at_builtin; refine push_own 22 3 _ 1 8 Tryz.underlying22 info3 rfl (by decide) rfl (.tmp 17) (.tmp 20) rfl (.slice none 0 0) 0 _ (by rfl) w1 (owns_nil _ _ _) [I root] rfl (by simp [Value.oneCell']) (by rfl) (by omega) (by omega) ?_))
  intro p2 c2 w2 r2 o2 n2
  have hsz0 : (w.alloc (.cells #[I g, I root, I m, S nt] 123)).heap.size = w.heap.size + 1 := by simp
  rw [hsz0] at HO l1
  have hbp : Below w1.heap.size w1 w2 := o2.below (Below.refl _ _) (Nat.le_refl _) (fun _ e => nomatch e)
  have hR0 : Rch ps m w w1 (w.heap.size + 1) m ps.length (.slice p2 (0 + 1) c2) (tgt root) ps (List.replicate m 0) w2 := by
    have et : tgt root = [root] := if_neg hr0
    refine ⟨rfl, hpl, Dfs.begin (unhide HT) (unhide HND), by rw [et]; exact r2, fun b hb => (n2 b hb).elim (fun e => nomatch e) id, ?_, List.length_replicate, ?_, (unhide HB1).trans (hbp.mono (unhide HB1).size), Only.of_below hbp⟩
    · have := unhide HO
      unfold Uls
      rw [List.length_replicate, ← made_zero]
      exact owns_below this hbp
    · intro n hn
      have e : (mem ps n && !mem ps n) = false := by cases mem ps n <;> rfl
      rw [e]
      simp [hn]
  have HR0 := hide hR0
  have HG2 := hide ((hbp.block _ (lt_of_row (unhide HG1))).trans (unhide HG1))
  clear hR0 r2 o2 n2 hbp HO HG HB
  go_wp2
  go_loopg [7] ps.length (fun k V wr => ∃ S U us, Rch ps m w w1 (w.heap.size + 1) m k V S U us wr)
  case atStart => exact ⟨_, _, _, unhide HR0⟩
  case round =>
    obtain ⟨S0, U, us, hR⟩ := hrel
    rcases List.eq_nil_or_concat S0 with rfl | ⟨S1, n, rfl⟩
    · have hU : U = [] := Dfs.done (unhide HT) hR.dfs
      subst hU
      obtain ⟨pV, cV, rfl⟩ := owns_form hR.row
      have HF := hide (show Uls wr (.slice (some ⟨w.heap.size + 1, 0, none⟩) m m) (mks ps m) ∧ Below w.heap.size w wr by
        have e : us = mks ps m := by
          apply List.ext_getElem
          · rw [hR.ul]; simp [mks]
          · intro i h1 h2
            have := hR.mrk i (by rw [← hR.ul]; exact h1)
            rw [List.getD_eq_getElem?_getD, List.getElem?_eq_getElem h1] at this
            simp only [Option.getD_some] at this
            rw [this]
            simp [mks, mem]
        rw [← e]
        exact ⟨hR.uls, hR.bel⟩)
      clear hR
      go_wp2
      go_ret2
      exact ⟨_, rfl, (unhide HF).1, fun k hk => by cases hk; show w.heap.size ≤ w.heap.size + 1; omega, (unhide HF).2⟩
    · rw [List.concat_eq_append] at hR
      obtain ⟨x, U', hx, hxn, hmU, hD', hUl, hmem⟩ := hR.dfs.step
      have hq := unhide HPS x hx
      have hpo := unhide HPO wr hR.bel x hx
      obtain ⟨xk, xn, xb, xl, xs⟩ := x
      simp only at hxn hq hpo hD' hmem
      have hxl4 : xl.length ≤ 122 := by
        have := hq.1
        unfold Pg.may Pg.fresh at this
        simp only [Bool.and_eq_true, decide_eq_true_eq] at this
        omega
      obtain ⟨n', rfl⟩ : ∃ n' : Nat, n = (n' : Int) := ⟨n.toNat, by omega⟩
      subst hxn
      have hn2 : 2 ≤ n' ∧ n' < m := by omega
      have hmU' := hmU (by omega)
      rw [Int.toNat_natCast] at hmU'
      obtain ⟨gs, cs, cur, eV, hgs, hle, _⟩ := owns_at hR.row (by simp)
      subst eV
      have hrow := hR.row
      rw [show (S1 ++ [(n' : Int)]).length = S1.length + 1 by simp] at hrow hle ⊢
      obtain ⟨s, hs⟩ : ∃ s, S1.length = s := ⟨_, rfl⟩
      have c0 : wr.cell? ⟨gs, s, none⟩ = some (I (n' : Int)) := by
        have := World.ownsRow.cells hrow (g := gs) rfl s (I (n' : Int)) (by rw [← hs]; simp)
        rw [add_at] at this
        exact this
      have hsh := row_shrink hrow (show s ≤ S1.length + 1 by omega)
      rw [show (S1 ++ [(n' : Int)]).take s = S1 by rw [← hs]; simp] at hsh
      rw [hs] at hle ⊢
      have hs4 : s + 1 ≤ 4096 := by
        have h1 := hR.dfs.perm.length_eq
        have h2 := hR.ub
        rw [List.length_append, List.length_map] at h1
        simp at h1
        omega
      have hsub : ((s + 1 : Nat) : Int) - 1 = ((s : Nat) : Int) := by omega
      have hgl := lt_of_row hgs
      have hgw : w1.heap.size ≤ gs := hR.nw gs rfl
      have HR := hide hR
      have HSH := hide hsh
      have HPQ := hide hpo
      have HQ := hide hq
      have HD' := hide hD'
      have HME := hide hmem
      have HUL := hide hUl
      have HMU := hide hmU'
      have HS := hide hs
      have hxb : ¬ g < xb := by omega
      have hd1 := And.intro (lt_of_row hgs) hxb
      clear hR hrow hsh hpo hq hD' hmem hUl hmU hmU' hs hgs hx hd1 HR0
      go_wp2_with (refine wp_sl rfl 22 (.tmp 31) none (some (.tmp 34)) rfl (.slice (some ⟨gs, 0, none⟩) (s + 1) cs) none (some (.int .i64 (s : Int))) (by rfl) (by rfl) (by rfl) (.slice (some ⟨gs, 0, none⟩) s cs) (s_sl22 gs (s + 1) cs s (by omega) hle _) ?_)
      refine (unhide HPQ).mono ?_
      rintro e w3 ⟨q3, cap3, rfl, r3, n3, b3⟩
      have hR := unhide HR
      have hb4 := belowR ((Below.refl w3.heap.size w3).alloc (Nat.le_refl _) (.cells #[I 0, I 0, I 0, .slice none 0 0, S []] 24)) (Nat.le_refl _) #[I xk, I n', I xb, .slice q3 xl.length cap3, S xs]
      have hx4 := setRow_row (vs := #[I xk, I n', I xb, .slice q3 xl.length cap3, S xs]) (heap_alloc_new w3 (.cells #[I 0, I 0, I 0, .slice none 0 0, S []] 24))
      have HA := hide (heap_alloc_new w3 (.cells #[I 0, I 0, I 0, .slice none 0 0, S []] 24))
      have hbb := b3.trans (hb4.mono b3.size)
      have hul := hR.ul
      have hu4 : Uls ((w3.alloc (.cells #[I 0, I 0, I 0, .slice none 0 0, S []] 24)).setRow w3.heap.size #[I xk, I n', I xb, .slice q3 xl.length cap3, S xs]) (.slice (some ⟨w.heap.size + 1, 0, none⟩) m m) us := owns_below hR.uls hbb
      have hz0 : us.getD n' 0 = 0 := by
        rw [hR.mrk n' hn2.2, unhide HMU]
        simp
      have hhs := has_any hu4 (n' : Int) 1 (by omega)
      have hhv : hasv us (n' : Int) 1 = false := by
        unfold hasv
        rw [Int.toNat_natCast, hz0]
        simp
      rw [hhv] at hhs
      have hG4 := (hbb.block _ (lt_of_row ((hR.be1.block _ (lt_of_row (unhide HG1)) (by omega)).trans (unhide HG1)))).trans ((hR.be1.block _ (lt_of_row (unhide HG1)) (by omega)).trans (unhide HG1))
      have f0 := cell_of_row _ _ 0 _ 123 (0, 0) hG4
      have f0l := lt_of_row hG4
      have x2 := cell_of_row _ _ 2 _ 24 (0, 0) hx4
      have xl4 := lt_of_row hx4
      rw [← hul] at hu4
      obtain ⟨gu2, cu2, eu2, hgu2, hcu⟩ := hu4.at (show n' < us.length by omega)
      have hset := hu4.set n' 1
      obtain ⟨g9, c9, cur9, e9, hrow9, _, _, hsz9, _⟩ := owns_at hu4 (by omega)
      cases e9
      have hfz := frz hrow9 n'
      rw [hul] at hset eu2
      cases eu2
      rw [hz0] at hcu
      have HHS := hide (show Calls Tryz.prog 132 #[.slice (some ⟨w.heap.size + 1, 0, none⟩) m m, I (n' : Int), .int .u8 1] ((w3.alloc (.cells #[I 0, I 0, I 0, .slice none 0 0, S []] 24)).setRow w3.heap.size #[I xk, I n', I xb, .slice q3 xl.length cap3, S xs]) _ from hhs)
      have HSET := hide hset
      have HX4 := hide hx4
      have HR3 := hide (owns_below r3 hb4)
      have HN3 := hide n3
      have HBB := hide hbb
      have HB3 := hide b3
      clear hrow9 hsz9 hhs hset hx4 r3 n3 hbb b3 hb4 hu4 hR hhv hz0 hG4 hul
      unfold pga
      simp only at HR3 HN3 ⊢
      generalize hxll : xl.length = nl at *
      have HXL := hide hxll
      clear hxll
      go_wp2_with (refine wp_st24 rfl (.tmp 9) (.tmp 40) rfl w3.heap.size (by rfl) xk n' xb q3 nl cap3 xs (by rfl) _ rfl (unhide HA) ?_; generalize (w3.alloc (.cells #[I 0, I 0, I 0, .slice none 0 0, S []] 24)).setRow w3.heap.size #[I xk, I n', I xb, .slice q3 nl cap3, S xs] = w4 at *)
      refine (unhide HHS).mono ?_
      rintro e w5 ⟨rfl, hw5⟩
      rw [hw5]
      clear hw5 HHS x2 f0 f0l xl4
      have hs1 := (unhide HR).be1.size
      have hs3 := (unhide HB3).size
      have h1w := lt_of_row (unhide HG1)
      have hgu1 : w.heap.size + 1 < w1.heap.size := l1
      have oS := Only.setCell w4 ⟨w.heap.size + 1, n', none⟩ (.int .u8 1)
      have hx5 := (oS.block w3.heap.size (lt_of_row (unhide HX4)) (by show ¬ w3.heap.size = w.heap.size + 1; omega)).trans (unhide HX4)
      have x3 := cell_of_row _ _ 3 _ 24 (0, 0) hx5
      have xl5 := lt_of_row hx5
      have HRS := hide (owns_only (owns_below (unhide HSH) (unhide HBB)) oS (fun k hk e => by cases hk; have : gs = w.heap.size + 1 := e; omega))
      have hrl := owns_only (unhide HR3) oS (fun k hk e => by have h1 := unhide HN3 k hk; have : k = w.heap.size + 1 := e; omega)
      rw [← unhide HXL] at hrl
      have HIN := hide (ins_of hrl)
      have HOS := hide oS
      have hsml : S1.length + xl.length ≤ 1000000000 := by rw [unhide HS, unhide HXL]; omega
      have HSM := hide hsml
      clear hx5 hrl oS hsml
      go_wp2_with (at_builtin; refine wp_appI rfl (.tmp 59) (.tmp 61) rfl (.slice (some ⟨gs, 0, none⟩) s cs) S1 xl (w4.setCell ⟨w.heap.size + 1, n', none⟩ (.int .u8 1)) (by rfl) (by rw [unhide HS]; exact unhide HRS) q3 cap3 nl (by rfl) (unhide HXL) (unhide HIN) (unhide HSM) ?_)
      intro v6 w6 r6 o6 n6
      have hR := unhide HR
      have hRn : Rch ps m w w1 (w.heap.size + 1) m U'.length v6 (S1 ++ xl) U' (us.set n' 1) w6 := by
        have o46 : Only (fun k => k = w.heap.size + 1 ∨ gs = k) w4 w6 := ((unhide HOS).mono (fun _ _ e => .inl e)).trans o6 (fun k _ e => .inr (Option.some.inj e))
        have ow : Only (fun k => k = w.heap.size + 1 ∨ gs = k) wr w6 := (Only.of_below (unhide HBB)).trans o46 (fun _ _ e => e)
        refine ⟨rfl, by have h1 := unhide HUL; have h2 := hR.ub; omega, unhide HD', by rw [List.length_append, List.map_append]; exact r6, fun b hb => ?_, ?_, by rw [List.length_set]; exact hR.ul, ?_, ?_, ?_⟩
        · rcases n6 b hb with e | e
          · have : gs = b := Option.some.inj e
            omega
          · have h1 := (unhide HOS).size
            have h2 := lt_of_row (unhide HX4)
            omega
        · exact owns_only (unhide HSET) o6 (fun k hk e => by cases hk; have : gs = w.heap.size + 1 := Option.some.inj e; omega)
        · intro n hn
          have hm := hR.mrk n hn
          have he := unhide HME n
          by_cases q : n = n'
          · subst q
            rw [decide_eq_true (by rfl)] at he
            rw [he]
            have hin : mem ps n = true := by
              obtain ⟨y, hy, e⟩ := mem_iff.1 (unhide HMU)
              exact mem_iff.2 ⟨y, hR.dfs.sub y hy, e⟩
            rw [hin]
            simp [hR.ul, hn]
          · rw [decide_eq_false (by omega), Bool.not_false, Bool.and_true] at he
            rw [he, ← hm]
            simp [List.getD_eq_getElem?_getD, Ne.symm q]
        · exact ow.below hR.bel hR.bel.size (fun k e => by rcases e with e | e <;> omega)
        · exact ⟨(hR.be1.os ▸ ow.os : _), (hR.be1.tape ▸ ow.tape : _), (hR.be1.output ▸ ow.output : _), Nat.le_trans hR.be1.size ow.size, fun k hk hne => (ow.block k (Nat.lt_of_lt_of_le hk hR.be1.size) (fun e => e.elim hne (fun e => by omega))).trans (hR.be1.block k hk hne)⟩
      have HRn := hide hRn
      clear hRn hR r6 o6 n6 x3 xl5
      go_wp2
      go_roundg U'.length
      case measure => have h1 := unhide HUL; have h2 := (unhide HR).kk; omega
      case rel => exact ⟨_, _, _, unhide HRn⟩
end Go.Proofs.YtjopnhhdemfniaaGreatDoor
namespace Go.Proofs.YtjopnhhdemfniaaGreatDoor
open Go.RowKit
set_option maxHeartbeats 8000000
set_option maxRecDepth 8000
/-- A store of which each page is named once is mounted. -/
theorem mountT_any {D : Nat} {d : Ds} {vw vl : Value} {w : World} (h : DAt D d vw vl w) (ho : Ok d) (hd : d.dead = false) (hc : (hct d).2 = true) (ps : List Pg) (hps : ∀ x ∈ ps, x.may = true ∧ 2 ≤ x.number ∧ x.number < d.last.length ∧ x.birth ≤ (hct d).1.gen ∧ cur d x.number.toNat = x.blk) (hnd : (ps.map Pg.number).Nodup) (hpl : ps.length ≤ 4096) (ht : Tre (hct d).1.root ps) :
    Calls Tryz.prog 39 #[ptr D] w fun e w' => ∃ P vu, e = .returned (.tuple #[ptr P, I 0]) ∧ PD P D d ⟨(hct d).1, mks ps d.last.length, 0, false⟩ vw vl vu w' ∧ w.heap.size ≤ P ∧ (∀ k, vu.ownBlock = some k → w.heap.size ≤ k) ∧ Below w.heap.size w w' := by
  have H0 := hide (dead_any h)
  rw [hd] at H0
  have H1 := hide (headThatCounts_any h ho)
  have hb := hct_blocks d hc
  rw [hc] at H1
  have HD := hide h
  have HO := hide ho
  have hlen := ho.len
  have HRR := hide (fun (W : World) (b : Below w.heap.size w W) (nt : Bs) => reachT_any (h.below b) ho (hct d).1.gen (hct d).1.root nt ps d.last.length rfl hd hps hnd hpl ht)
  clear hps hnd hpl ht
  generalize (hct d).1 = x at *
  obtain ⟨g, r, b, nt⟩ := x
  unfold hda at H1
  simp only at H1 hb HRR
  subst hb
  have HR := hide (fun W b => unhide HRR W b nt)
  clear HRR
  generalize hln : d.last.length = ln at *
  have HLN := hide hln
  clear h ho hd hc hln
  go_enter Tryz.func39, Tryz.ntmps39
  go_wp2_with fail
  refine (unhide H0).mono ?_
  rintro e w0 ⟨rfl, hw0⟩
  rw [hw0]
  clear hw0 w0
  go_wp2_with fail
  refine (unhide H1).mono ?_
  rintro e w1 ⟨rfl, b1⟩
  have B1 := hide (b1.alloc b1.size (.cells #[I g, I r, I ln, S nt] 123))
  have HG := hide (heap_alloc_new w1 (.cells #[I g, I r, I ln, S nt] 123))
  clear b1
  go_wp2_with fail
  refine (unhide HR _ (unhide B1)).mono ?_
  rintro e w2 ⟨vu, rfl, u2, n2, b2⟩
  obtain ⟨c0, c1, c2, c3⟩ := box4 (unhide HG) b2 (lt_of_row (unhide HG))
  obtain ⟨q, cap, rfl⟩ := owns_form u2
  have B2 := hide ((unhide B1).trans (b2.mono (unhide B1).size))
  have U2 := hide u2
  have N2 := hide (fun k hk => Nat.le_trans (unhide B1).size (n2 k hk))
  clear u2 n2 b2
  generalize hrl : (mks ps ln).length = rl at *
  clear hrl
  go_wp2
  go_ret2
  have hb3 := (unhide B2).alloc (unhide B2).size (.cells #[ptr D, I g, I r, I ln, S nt, .slice q rl cap, .int .u8 0, .bool false] 172)
  refine ⟨w2.heap.size, .slice q rl cap, rfl, ⟨(unhide HD).below hb3, unhide HO, heap_alloc_new _ _, owns_alloc (unhide U2) _, by simp [mks]; exact (unhide HLN).symm⟩, (unhide B2).size, unhide N2, hb3⟩
end Go.Proofs.YtjopnhhdemfniaaGreatDoor
