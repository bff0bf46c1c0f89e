import Derived.Test.YtjopnhhdemfniaaGreatDoorQbp
import Derived.Test.YtjopnhhdemfniaaGreatDoorZqbn
import Derived.BigQuiet
import Derived.Deep.CutRange
import Derived.Deep.CutBlock
namespace Go.Proofs.YtjopnhhdemfniaaGreatDoor
open Go.RowKit
set_option maxHeartbeats 16000000
set_option maxRecDepth 8000
theorem pws_one (L : List Pw) (h : ∀ x ∈ L, x.2.oneCell' = true) : ∀ u ∈ pws L, u.oneCell' = true := by
  intro u hu
  obtain ⟨x, hx, hu⟩ := List.mem_flatMap.1 hu
  simp only [pwc, List.mem_cons, List.not_mem_nil, or_false] at hu
  rcases hu with rfl | rfl
  · rfl
  · exact h x hx
theorem wp_sl {ops : Array Oper} {rest : List Oper} {o : Oper} {act : Act} {Q : Exit → Act → World → Prop} {w : World} (hgd : o.guard = none) (t : TypeId) (x : Operand) (lo hi : Option Operand) (ho : o.op = .slice t x lo hi none) (vx : Value) (vl vh : Option Value) (hx : act.eval x = vx) (hl : lo.map act.eval = vl) (hh : hi.map act.eval = vh) (r : Value) (hr : (Instr.sliceAt t vx vl vh none).run Tryz.prog w = .ok r w) (hK : wpList Tryz.prog ops Q rest (act.put o.dst r) w) : wpList Tryz.prog ops Q (o :: rest) act w := by
  refine wpList_plain hgd fun K hK2 => ?_
  unfold Oper.wp
  simp only [g_sl ho hx hl hh rfl hr]
  exact hK2 _ _ hK
structure Hl where
  what : Int
  n : Int
  how : Int
  many : Int
def i64 (z : Int) : Prop := -9223372036854775808 ≤ z ∧ z ≤ 9223372036854775807
def noHl : Hl := ⟨0, 0, 0, 0⟩
def Scs (w : World) (a : Option Addr) (n : Nat) (l : List Hl) : Prop :=
  n = l.length ∧ (0 < n → ∃ g o, a = some ⟨g, o, none⟩ ∧ ∀ j, j < n → w.cell? ⟨g, o + j * 4, none⟩ = some (I (l.getD j noHl).what) ∧ w.cell? ⟨g, o + j * 4 + 1, none⟩ = some (I (l.getD j noHl).n) ∧ w.cell? ⟨g, o + j * 4 + 2, none⟩ = some (I (l.getD j noHl).how) ∧ w.cell? ⟨g, o + j * 4 + 3, none⟩ = some (I (l.getD j noHl).many))
theorem Scs.at {w : World} {a : Option Addr} {n : Nat} {l : List Hl} (h : Scs w a n l) {j : Nat} (hj : j < n) : ∃ g o, a = some ⟨g, o, none⟩ ∧ g < w.heap.size ∧ w.cell? ⟨g, o + j * 4, none⟩ = some (I (l.getD j noHl).what) ∧ w.cell? ⟨g, o + j * 4 + 1, none⟩ = some (I (l.getD j noHl).n) ∧ w.cell? ⟨g, o + j * 4 + 2, none⟩ = some (I (l.getD j noHl).how) ∧ w.cell? ⟨g, o + j * 4 + 3, none⟩ = some (I (l.getD j noHl).many) := by
  obtain ⟨g, o, e, hc⟩ := h.2 (by omega)
  obtain ⟨c0, c1, c2, c3⟩ := hc j hj
  exact ⟨g, o, e, blk_lt c0, c0, c1, c2, c3⟩
/-- At the head of each step. -/
def Hd8 (w : World) (m Y P D : Nat) (vl : Value) (i : Nat) (v : Value) (W : World) : Prop := ∃ vw vu gen root al nt Lp q c Lw last p, Bd m Y P D vl vw vu gen root al nt Lp q c Lw v last p W ∧ gen ≤ (i : Int) + 1 ∧ 0 ≤ al ∧ al ≤ 100 * (i : Int) + 3 ∧ (∀ k, FY P D vw vl vu Y k → w.heap.size ≤ k) ∧ Below w.heap.size w W
theorem pagerHolds_any (blocks : Int) (sa : Option Addr) (sn sc : Nat) (Sc : List Hl) (w : World) (hS : Scs w sa sn Sc) (hb : i64 blocks) (hr : ∀ x ∈ Sc, i64 x.what ∧ i64 x.n ∧ i64 x.how ∧ i64 x.many) (hn : sn ≤ 42949) :
    Calls Tryz.prog 8 #[I blocks, .slice sa sn sc] w fun e w' => e = .returned (.bool true) ∧ Below w.heap.size w w' := by
  have HS := hide hS
  have HR := hide hr
  have HPK := hide (fun W => pick_any blocks 40 W (by omega) (by omega) hb.1 hb.2)
  have hp40 := pkv_lt blocks 40 (by omega)
  have HAW := hide (fun W => awake_any W)
  have HNT := hide (fun W => note9_any 3 W)
  clear hS hr hb
  generalize hr6 : pkv blocks 40 = r0 at *
  clear hr6
  obtain ⟨r, hr⟩ : ∃ r, r = r0 + 6 := ⟨_, rfl⟩
  have h6 : 6 ≤ r ∧ r ≤ 4094 := by omega
  have hmi : min (sn : Int) 2147483647 = (sn : Int) := by omega
  have HZN := hide (fun W => z_new r h6 W)
  have HZF := hide (fun (D : Nat) (vw vl : Value) (W : World) (q : DAt D (Lv [] (Bz r zs zs) 0) vw vl W) => z_fmt h6 (nte_len 3) q)
  have HZM := hide (fun (D : Nat) (vw vl : Value) (W : World) (q : DAt D (Lv [] (Bz r zs (hZ r (nte 3)).blk) 3) vw vl W) => z_mnt h6 (nte_len 3) q)
  have HZH := hide (hds_z h6 (nte_len 3))
  generalize nte 3 = n3 at *
  have h7 : ¬ (2147483647 : Int) < 50000 * (sn : Int) := by omega
  have h9 : ¬ (2147483647 : Int) < (sn : Int) := by omega
  go_enter Tryz.func8, Tryz.ntmps8
  go_wp2_with fail
  refine (unhide HAW _).mono ?_
  rintro e w1 ⟨rfl, b1⟩
  have HB1 := hide b1
  clear b1 HAW h7 h9 hmi
  go_wp2_with fail
  refine (unhide HPK _).mono ?_
  rintro e w1' ⟨rfl, rfl⟩
  have e8 : (8 : Int) + (r0 : Int) = ((r + 2 : Nat) : Int) := by omega
  obtain ⟨m, hm⟩ : ∃ m, r + 2 = m := ⟨_, rfl⟩
  rw [hm] at HZN HZH e8
  go_upto_region 5 with fail
  clear e8 HPK hp40
  go_wp2_with fail
  refine (unhide HZN _).mono ?_
  rintro e w2 ⟨D, vl, rfl, hD2, nD2, b2⟩
  have HD2 := hide hD2
  have HND := hide nD2
  have HB2 := hide ((unhide HB1).trans (b2.mono (unhide HB1).size))
  have HS2 := hide (Nat.le_trans (unhide HB1).size (Nat.le_refl _))
  clear hD2 nD2 b2 HZN
  go_wp2_with fail
  refine (unhide HNT _).mono ?_
  rintro e w3 ⟨rfl, b3⟩
  have HZF3 := hide (unhide HZF D _ _ w3 ((unhide HD2).below b3))
  have HB3 := hide ((unhide HB2).trans (b3.mono (unhide HB2).size))
  clear b3 HZF
  go_wp2_with fail
  refine (unhide HZF3).mono ?_
  rintro e w4 ⟨rfl, vw, hD4, o4, nw4⟩
  have hlo : ∀ k, Of D vw vl k → w.heap.size ≤ k := fun k hk => by
    have h1 := (unhide HB1).size
    rcases hk with e | e | e
    · exact Nat.le_trans h1 (unhide HND k (.inl e))
    · rcases nw4 k e with q | q
      · cases q
      · exact Nat.le_trans (unhide HB3).size q
    · exact Nat.le_trans h1 (unhide HND k (.inr (.inr e)))
  have HB4 := hide (o4.below (unhide HB3) (unhide HB3).size (fun k hk => Nat.le_trans (unhide HB1).size (unhide HND k hk)))
  have HLO := hide hlo
  have HZM4 := hide (unhide HZM D _ _ w4 hD4)
  clear hD4 o4 nw4 hlo HZF3 HZM HB2 HB3 HD2 HS2
  go_wp2_with fail
  refine (unhide HZM4).mono ?_
  rintro e w5 ⟨P, vu, rfl, hP5, lP, lu, b5⟩
  have HP5 := hide hP5
  have HB5 := hide ((unhide HB4).trans (b5.mono (unhide HB4).size))
  have HLP := hide (Nat.le_trans (unhide HB4).size lP)
  have HLU := hide (fun k hk => Nat.le_trans (unhide HB4).size (lu k hk))
  clear hP5 lP lu b5 HZM4
  go_wp2_with fail
  refine (unhide HNT _).mono ?_
  rintro e w6 ⟨rfl, b6⟩
  have HA6 := hide (heap_alloc_new w6 (.cells #[I 0, I 0, .string ⟨#[]⟩, .slice none 0 0] 83))
  have HP6 := hide ((unhide HP5).below b6)
  have HB6 := hide ((unhide HB5).trans (b6.mono (unhide HB5).size))
  clear b6 HNT
  go_wp2_with (refine wp_st83 rfl (.tmp 11) (.tmp 75) rfl w6.heap.size (by rfl) 1 0 n3 (.slice none 0 0) rfl (by rfl) _ rfl (unhide HA6) ?_)
  obtain ⟨Y, hY⟩ : ∃ Y, Y = w6.heap.size := ⟨_, rfl⟩
  have hold : ∀ k, POf P D vw vl vu k → k < w6.heap.size := (unhide HP6).old
  have hb7 := belowR ((Below.refl w6.heap.size w6).alloc (Nat.le_refl _) (.cells #[I 0, I 0, .string ⟨#[]⟩, .slice none 0 0] 83)) (Nat.le_refl _) #[I 1, I 0, S n3, .slice none 0 0]
  have HH0 : Hid (Hd8 w m Y P D vl 0 (.slice none 0 0) ((w6.alloc (.cells #[I 0, I 0, .string ⟨#[]⟩, .slice none 0 0] 83)).setRow w6.heap.size #[I 1, I 0, S n3, .slice none 0 0])) := hide (by
    refine ⟨vw, vu, 1, 0, 3, n3, [], none, 0, [], _, _, ⟨unhide HZH, (unhide HP6).below hb7, by rw [hY]; exact setRow_row (unhide HA6), fun e => by have := hold _ e; omega, fun W _ => ⟨fun h => absurd h (Nat.lt_irrefl _), ⟨rfl, fun h => absurd h (Nat.lt_irrefl _)⟩⟩, owns_nil _ _ _, (fun _ q => nomatch q), (fun W _ x hx => nomatch hx), (fun x hx => nomatch hx)⟩, by omega, by omega, by omega, fun k hk => ?_, (unhide HB6).trans (hb7.mono (unhide HB6).size)⟩
    rcases hk with e | e
    · rcases e with e | e | e
      · rw [e]; exact unhide HLP
      · exact unhide HLU k e
      · exact unhide HLO k e
    · rw [e, hY]; exact (unhide HB6).size)
  generalize (w6.alloc (.cells #[I 0, I 0, .string ⟨#[]⟩, .slice none 0 0] 83)).setRow w6.heap.size #[I 1, I 0, S n3, .slice none 0 0] = w7 at *
  rw [← hY]
  clear hY hold hb7 HA6 HP6 HP5 HB4 HB5 HB6 HLP HLU HLO HND HB1 HZH hr h6 hm
  go_loopw [12, 13] (fun v i wr => ∃ j : Nat, j ≤ sn ∧ i = .int .i64 j ∧ Hd8 w m Y P D vl j v wr) (fun _ i _ => sn - (Go.RowKit.intOf i).toNat)
  case atStart => exact ⟨0, by omega, rfl, unhide HH0⟩
  case round =>
    obtain ⟨j, hj, rfl, vw, vu, gen, root, al, nt, Lp, q, c, Lw, last, p, hB, hgen, hal0, hal, hFY, hbw⟩ := hrel
    by_cases hlt : j < sn
    · have hlt' : (j : Int) < (sn : Int) := by omega
      obtain ⟨gs, os, es, hgs, d0, d1, d2, d3⟩ := (unhide HS).at hlt
      subst es
      obtain ⟨hrw, hrn, hrh, hrm⟩ := unhide HR _ (getD_in Sc noHl j (by have := (unhide HS).1; omega))
      generalize Sc.getD j noHl = x at *
      obtain ⟨xw, xn, xh, xm⟩ := x
      simp only at d0 d1 d2 d3 hrw hrn hrh hrm
      have e0 := (hbw.cell hgs).trans d0
      have e1 := (hbw.cell hgs).trans d1
      have e2 := (hbw.cell hgs).trans d2
      have e3 := (hbw.cell hgs).trans d3
      have hgs' := Nat.lt_of_lt_of_le hgs hbw.size
      obtain ⟨a, cap, ev⟩ := owns_form hB.rw
      obtain ⟨n, hnw⟩ : ∃ n, Lw.length = n := ⟨_, rfl⟩
      rw [hnw] at ev
      subst ev
      have hb1 := belowR ((Below.refl wr.heap.size wr).alloc (Nat.le_refl _) (.cells #[I 0, I 0, I 0, I 0] 94)) (Nat.le_refl _) #[I xw, I xn, I xh, I xm]
      have hz1 := setRow_row (vs := #[I xw, I xn, I xh, I xm]) (heap_alloc_new wr (.cells #[I 0, I 0, I 0, I 0] 94))
      have HA1 := hide (heap_alloc_new wr (.cells #[I 0, I 0, I 0, I 0] 94))
      obtain ⟨Z, hZ⟩ : ∃ Z, Z = wr.heap.size := ⟨_, rfl⟩
      have HB1 := hide (hB.below hb1)
      have HZ1 := hide hz1
      have HL1 := hide (hbw.trans (hb1.mono hbw.size))
      have HFY := hide hFY
      have HNW := hide hnw
      clear hB hbw hb1 hz1 d0 d1 d2 d3 hgs hFY hnw HH0
      go_wp2_with (refine wp_st94 rfl (.tmp 14) (.tmp 85) rfl wr.heap.size (by rfl) xw xn xh xm (by rfl) _ rfl (unhide HA1) ?_; generalize (wr.alloc (.cells #[I 0, I 0, I 0, I 0] 94)).setRow wr.heap.size #[I xw, I xn, I xh, I xm] = wz at *)
      have hB := unhide HB1
      have HBK := hide (blocks_any hB.pd.dat (fun y hy => by have := hB.hd.d5 y hy; omega) (by rw [show (Lv [] last al).last = last from rfl, hB.hd.dl]; have := hB.hd.m8; omega))
      rw [show (Lv [] last al).last = last from rfl] at HBK
      clear hB e0 e1 e2 e3 hgs' HA1
      rw [← hZ] at HZ1 ⊢
      refine (unhide HBK).mono ?_
      rintro e w2b ⟨Vb, rfl, rb, nb, bb⟩
      have HB2 := hide ((unhide HB1).below bb)
      have HZ2 := hide ((bb.block _ (lt_of_row (unhide HZ1))).trans (unhide HZ1))
      have HRB := hide rb
      have HNB := hide nb
      have HFO := hide (unhide HB1).old
      have HL2 := hide ((unhide HL1).trans (bb.mono (unhide HL1).size))
      have HSZ := hide bb.size
      clear rb nb bb HBK HB1 HZ1 HL1
      have hm8 := (unhide HB2).hd.m8
      have hfew := (unhide HB2).few
      have hn4 := (len4 (unhide HB2).hd.pl (unhide HB2).hd.pk).1
      rw [List.length_map, unhide HNW] at hn4
      have hHl := rls1_len (hdb0 (Lw.map (·.1)) (Lp.map (·.1)) m) m
      rw [show rls1 (hdb0 (Lw.map (·.1)) (Lp.map (·.1)) m) m = hdl (Lw.map (·.1)) (Lp.map (·.1)) m from rfl] at hHl
      obtain ⟨H, hH⟩ : ∃ H, hdl (Lw.map (·.1)) (Lp.map (·.1)) m = H := ⟨_, rfl⟩
      obtain ⟨G, hG⟩ : ∃ G, (Lp.map (·.1)).map Pg.number = G := ⟨_, rfl⟩
      have hGl : G.length ≤ 4096 := by rw [← hG]; simpa using hfew
      rw [hH] at hHl
      have HH := hide hH
      have HG := hide hG
      clear hH hG
      go_upto_region 18 with fail
      refine rbh18 Y m (.slice a n cap) (.agg #[I gen, I root, S nt, .slice q Lp.length c]) (.slice q Lp.length c) (by kernel_rfl) (by kernel_rfl) (by kernel_rfl) _ _ (by show 96 ≤ Array.size _; simp) rfl rfl rfl (B18 w2b H G) ⟨_, B18.start _ _ _⟩ ?_ ?_ ?_ ?_ ?_ ?_ ?_ ?_
      · intro i hi c' L W hW
        simp only [List.mem_cons, List.not_mem_nil, or_false, not_or] at hi
        exact hW.pure hi.1 hi.2.1 hi.2.2.1 hi.2.2.2
      · intro c' L W hW _
        exact s_ldr Tryz.isAgg83 Tryz.sizeOf83 ((unhide HB2).below hW.be).st [I gen, I root, S nt, .slice q Lp.length c] rfl rfl
      · intro c' L W hW h3 _ _ _
        have hBW := (unhide HB2).below hW.be
        have hf := hBW.pns (a := a) (n := n) (cap := cap) rfl W (Only.refl _ _)
        have hw := heldL_any a n cap (Lw.map (·.1)) gen root nt q c (Lp.map (·.1)) m W hf.1 hf.2 (by omega) (by rw [List.length_map]; omega) (by omega) (fun y hy => by
          obtain ⟨z, hz, rfl⟩ := List.mem_map.1 hy
          refine ⟨by have := hBW.pb z hz; omega, fun t ht => ?_⟩
          have := hBW.hd.pg t (.inr ⟨z.1, List.mem_map_of_mem hz, ht⟩)
          omega) (fun y hy => by have := hBW.hd.pg y (.inl hy); omega)
        rw [List.length_map, unhide HH] at hw
        refine hw.mono ?_
        rintro e W' ⟨V, rfl, r, nn, b⟩
        refine ⟨⟨V, c'.b, c'.v⟩, fun i hi => ?_, rfl, hW.three h3 b r nn⟩
        unfold vrbh18
        split <;> first | rfl | (rw [h3] at hi; cases hi)
      · intro c' L W hW _ _
        exact s_ld Tryz.isAgg27 (cell_of_row _ _ 3 _ 83 (0, 0) ((unhide HB2).below hW.be).st)
      · intro c' L W hW h6 _
        have hBW := (unhide HB2).below hW.be
        have hf := hBW.pns (a := a) (n := n) (cap := cap) rfl W (Only.refl _ _)
        rw [List.length_map] at hf
        have hw := numbers_any q Lp.length c (Lp.map (·.1)) W hf.2 (by omega)
        rw [unhide HG] at hw
        refine hw.mono ?_
        rintro e W' ⟨V, rfl, r, nn, b⟩
        refine ⟨⟨c'.a, V, c'.v⟩, fun i hi => ?_, rfl, hW.six h6 b (by rw [show G.length = Lp.length by rw [← unhide HG]; simp]; exact r)⟩
        unfold vrbh18
        split <;> first | rfl | (rw [h6] at hi; cases hi)
      · intro T c' L W hW h7 h3 h6
        obtain ⟨v', W', k1, k2⟩ := hW.seven h7 h3 h6 T (by omega)
        refine ⟨⟨c'.a, c'.b, v'⟩, W', fun i hi => ?_, k1, k2⟩
        unfold vrbh18
        split <;> first | rfl | (rw [h7] at hi; cases hi) | (rw [hW.p8 hi] at h7; cases h7)
      · exact fun c' L W hW _ h7 => hW.eight h7
      intro c' L W hall hW
      obtain ⟨_, _, rv, nv⟩ := hW.rv (hall 7 (by omega))
      have HRV := hide rv
      have HNV := hide nv
      have HB3 := hide ((unhide HB2).below hW.be)
      have HZ3 := hide ((hW.be.block _ (lt_of_row (unhide HZ2))).trans (unhide HZ2))
      have HRB3 := hide (owns_below (unhide HRB) hW.be)
      have HL3 := hide ((unhide HL2).trans (hW.be.mono (unhide HL2).size))
      have hsz := (unhide HL2).size
      have hsz2 := unhide HSZ
      clear rv nv hW hall HB2 HZ2 HRB HL2
      obtain ⟨c1, c2, c3⟩ := c'
      simp only at HRV HNV ⊢
      simp only [Act.put, List.setIfInBounds_toArray, List.set_cons_succ, List.set_cons_zero]
      have hfyo := (unhide HB3).old
      have HCV := hide (fun k (hk : c3.ownBlock = some k) => (fun (e : FY P D vw vl vu Y k) => absurd (unhide HFO k e) (by have := unhide HNV k hk; omega) : ¬ FY P D vw vl vu Y k))
      have HBV := hide (fun k (hk : Vb.ownBlock = some k) => (fun (e : FY P D vw vl vu Y k) => absurd (unhide HFO k e) (by have := unhide HNB k hk; omega) : ¬ FY P D vw vl vu Y k))
      clear HNV HNB HFO hfyo
      go_upto_block 2 with fail
      go_cut [12, 17, 18, 19, 20, 21, 22, 23, 24, 25, 26, 27, 28, 29] from 96 to 241 (fun v _ _ _ _ _ _ _ _ _ _ _ _ _ wc => ∃ vw' vu' gen' root' al' nt' Lp' q' c' Lw' last' p', Bd m Y P D vl vw' vu' gen' root' al' nt' Lp' q' c' Lw' v last' p' wc ∧ gen' ≤ gen + 1 ∧ al ≤ al' ∧ al' ≤ al + 100 ∧ (∀ k, FY P D vw' vl vu' Y k → FY P D vw vl vu Y k ∨ W.heap.size ≤ k) ∧ Only (FY P D vw vl vu Y) W wc ∧ (∀ n, n < m → usd (Lp.map (·.1)) (Lw.map (·.1)) n = true → last'.getD n [] = last.getD n []))
      case first =>
        rw [hZ] at HZ3
        have z0 := cell_of_row _ _ 0 _ 94 (0, 0) (unhide HZ3)
        have z1 := cell_of_row _ _ 1 _ 94 (0, 0) (unhide HZ3)
        have z2 := cell_of_row _ _ 2 _ 94 (0, 0) (unhide HZ3)
        have z3 := cell_of_row _ _ 3 _ 94 (0, 0) (unhide HZ3)
        have zl := lt_of_row (unhide HZ3)
        have HHD := hide (unhide HB3).hd
        clear HRV HRB3 HCV HBV HL3 HR
        have HON := hide (fun (W' : World) (o : Only (fun k => k = P ∨ vu.ownBlock = some k) W W') => (show Only (POf P D vw vl vu) W W' from o.mono (fun k _ r => r.elim (fun e => .inl e) (fun e => .inr (.inl e)))))
        have HOF := hide (fun (W' : World) (o : Only (POf P D vw vl vu) W W') => (show Only (FY P D vw vl vu Y) W W' from o.mono (fun k _ r => .inl r)))
        by_cases hw0 : xw = 0
        · as_aux_lemma =>
            subst hw0
            have HPI := hide (pin_any (unhide HB3).pd)
            rw [(unhide HHD).pnv al, List.length_map, unhide HNW] at HPI
            by_cases h4 : n = 4
            · subst h4
              rw [if_pos rfl] at HPI
              simp only at HPI
              go_wp2_with fail
              refine (unhide HPI).mono ?_
              rintro e w4 ⟨rfl, hp, o⟩
              have HBM := hide ((unhide HB3).move (unhide HON _ o) (unhide HHD) hp)
              have HOM := hide (unhide HOF _ (unhide HON _ o))
              clear hp o HPI z0 z1 z2 z3 zl
              go_wp2
              go_meet
              exact ⟨vw, vu, gen, root, al, nt, Lp, q, c, Lw, last, p, unhide HBM, by omega, by omega, by omega, fun k hk => .inl hk, unhide HOM, fun n _ _ => rfl⟩
            · rw [if_neg h4] at HPI
              simp only at HPI
              have hn3 : n < 4 := by omega
              have h4' : ¬ (n : Int) = 4 := by omega
              have HPN := hide ((unhide HHD).pin (by rw [List.length_map, unhide HNW]; exact hn3))
              have hle := (unhide HPN).2.1
              have hle1 := (lea_stands (unhide HHD).pl (unhide HHD).pk).2.2
              rw [List.length_map, unhide HNW] at hle1
              obtain ⟨ll, hll⟩ : ∃ ll, lea (Lw.map (·.1)) = ll := ⟨_, rfl⟩
              rw [hll] at HPI hle hle1
              have HLL := hide hll
              clear hll
              go_wp2_with fail
              refine (unhide HPI).mono ?_
              rintro e w4 ⟨rfl, hp, o⟩
              have HO4 := hide (unhide HON _ o)
              have HD4 := hide hp
              have HRW4 := hide (owns_only (unhide HB3).rw (unhide HON _ o) (fun k hk r => (unhide HB3).rn k hk (.inl r)))
              have HPS4 := hide ((unhide HB3).pns (a := a) (n := n) (cap := cap) rfl w4 (unhide HON _ o))
              have HY4 := hide ((o.block Y (lt_of_row (unhide HB3).st) (fun r => (unhide HB3).yn (r.elim (fun e => .inl e) (fun e => .inr (.inl e))))).trans (unhide HB3).st)
              clear hp o HPI z0 z1 z2 z3 zl
              go_wp2
              go_loopw [19, 20] (fun x y wv => ∃ k : Nat, k ≤ n ∧ y = .int .i64 k ∧ x = .int .i64 (leak (Lw.map (·.1)) k : Nat) ∧ wv = w4) (fun _ y _ => n - (Go.RowKit.intOf y).toNat)
              case atStart => exact ⟨0, by omega, rfl, rfl, rfl⟩
              case round =>
                obtain ⟨k, hk, rfl, rfl, hwv⟩ := hrel
                rw [hwv]
                clear hwv
                have hlk := leak_le (Lw.map (·.1)) k
                by_cases hkl : k < n
                · have hkl' : (k : Int) < (n : Int) := by omega
                  obtain ⟨gp, op, q1, c1, ea, hgp, hc0, _, _⟩ := (unhide HPS4).1.at hkl
                  subst ea
                  have hst : leak (Lw.map (·.1)) (k + 1) = if ((Lw.map (·.1)).getD k noPn).1 = (leak (Lw.map (·.1)) k : Int) then leak (Lw.map (·.1)) k + 1 else leak (Lw.map (·.1)) k := rfl
                  have HST := hide hst
                  generalize ((Lw.map (·.1)).getD k noPn).1 = z at *
                  by_cases hz : z = (leak (Lw.map (·.1)) k : Int)
                  · rw [if_pos hz] at HST
                    rw [hz] at hc0
                    generalize leak (Lw.map (·.1)) k = lk at *
                    clear hst hz
                    go_wp2
                    go_round
                    case measure => simp [Go.RowKit.intOf] <;> omega
                    case rel => exact ⟨k + 1, by omega, by simp, by rw [unhide HST]; simp, by first | rfl | trivial⟩
                  · rw [if_neg hz] at HST
                    generalize leak (Lw.map (·.1)) k = lk at *
                    clear hst
                    go_wp2
                    go_round
                    case measure => simp [Go.RowKit.intOf] <;> omega
                    case rel => exact ⟨k + 1, by omega, by simp, by rw [unhide HST], by first | rfl | trivial⟩
                · obtain rfl : k = n := by omega
                  have hkl' : ¬ (k : Int) < (k : Int) := by omega
                  have hel : leak (Lw.map (·.1)) k = ll := by
                    rw [← unhide HLL]
                    unfold lea
                    rw [List.length_map, unhide HNW]
                  rw [hel]
                  clear hel hlk
                  obtain ⟨at_, hat⟩ : ∃ at_, ll = at_ + 1 := ⟨ll - 1, by omega⟩
                  subst hat
                  have hsub : ((at_ + 1 : Nat) : Int) - 1 = ((at_ : Nat) : Int) := by omega
                  have hatl : at_ ≤ Lw.length := by rw [unhide HNW]; omega
                  obtain ⟨qa, ca, sa1, sa2⟩ := sl_to (.slice a k cap) Lw _ (unhide HRW4) at_ hatl
                  obtain ⟨qb, cb, sb1, sb2⟩ := sl_from (.slice a k cap) Lw _ (unhide HRW4) at_ hatl
                  have HSA := hide sa1
                  have HSB := hide sb1
                  have HLO := hide (show ∀ x ∈ Lw, x.2.oneCell' = true from fun x hx => by
                    obtain ⟨q0, c0, e0, _⟩ := (unhide HB3).pn.here x hx
                    rw [e0]; rfl)
                  have HM1 := hide (show 0 < (Lw.take at_).length → ∃ g o, qa = some ⟨g, o, none⟩ ∧ ∀ j u, (pws (Lw.take at_))[j]? = some u → w4.cell? ⟨g, o + j, none⟩ = some u from fun h0 => by
                    rw [List.length_take] at h0
                    obtain ⟨g0, e1, e2⟩ := sa2 (by omega)
                    refine ⟨g0, 0, e2, fun j u hj => ?_⟩
                    have := row_part (unhide HRW4) 0 at_ e1 j u (by rw [List.drop_zero]; exact hj)
                    rwa [Nat.zero_mul] at this)
                  have HT1 := hide (show (Lw.take at_).length = at_ by rw [List.length_take]; omega)
                  have HP1 := hide (pws_one (Lw.take at_) (fun x hx => unhide HLO x (List.mem_of_mem_take hx)))
                  clear sa1 sb1 sa2
                  go_wp2_with (first | (refine wp_sl rfl 90 (.tmp 183) none (some (.tmp 184)) rfl (.slice a k cap) none (some (.int .i64 (at_ : Int))) (by rfl) (by rfl) (by rfl) (.slice qa at_ ca) (unhide HSA _) ?_) | (at_builtin; refine wp_appN rfl (.tmp 182) (.tmp 185) rfl (.slice none 0 0) [] (Lw.take at_) w4 (by rfl) (owns_nil _ _ _) qa ca at_ (by rfl) (unhide HT1) (unhide HM1) (unhide HP1) (by rw [unhide HT1]; simp; omega) ?_))
                  intro v5 wa r5 o5 n5
                  have b5 : Below w4.heap.size w4 wa := o5.below (Below.refl _ _) (Nat.le_refl _) (fun _ e => nomatch e)
                  have n5' : ∀ k, v5.ownBlock = some k → w4.heap.size ≤ k := fun k hk => (n5 k hk).elim (fun e => nomatch e) id
                  obtain ⟨p5, c5, e5⟩ := owns_form r5
                  subst e5
                  have hya := (b5.block _ (lt_of_row (unhide HY4))).trans (unhide HY4)
                  have y3 := cell_of_row _ _ 3 _ 83 (0, 0) hya
                  have yl := lt_of_row hya
                  have HR5 := hide r5
                  have HN5 := hide n5'
                  have HB5 := hide b5
                  clear r5 o5 n5 b5 n5' hya
                  go_wp2_with (at_builtin; refine push_own 90 101 _ 2 32 Tryz.underlying90 info101p rfl (by decide) rfl (.tmp 187) (.tmp 192) rfl (.slice p5 at_ c5) at_ _ (by rfl) wa (unhide HR5) [I ((at_ + 1 : Nat) : Int), .slice q Lp.length c] rfl (by simp [Value.oneCell']) (by rfl) (by omega) (by omega) ?_)
                  intro p6 c6 wb r6 o6 n6
                  have hbb : Below w4.heap.size w4 wb := o6.below (unhide HB5) (unhide HB5).size (fun k hk => unhide HN5 k hk)
                  have n6' : ∀ k, (Value.slice p6 (at_ + 1) c6).ownBlock = some k → w4.heap.size ≤ k := fun k hk => (n6 k hk).elim (unhide HN5 k) (fun e => Nat.le_trans (unhide HB5).size e)
                  have HR6 := hide (show wb.ownsRow 0 101 2 (.slice p6 (at_ + 1) c6) (Lw.take at_ ++ [((((at_ + 1 : Nat) : Int), Lp.map (·.1)), Value.slice q Lp.length c)]).length (pws (Lw.take at_ ++ [((((at_ + 1 : Nat) : Int), Lp.map (·.1)), Value.slice q Lp.length c)])) by
                    rw [List.length_append, unhide HT1, List.length_singleton, pws_cat]
                    exact r6)
                  have HM2 := hide (show 0 < (Lw.drop at_).length → ∃ g o, qb = some ⟨g, o, none⟩ ∧ ∀ j u, (pws (Lw.drop at_))[j]? = some u → wb.cell? ⟨g, o + j, none⟩ = some u from fun h0 => by
                    rw [List.length_drop] at h0
                    obtain ⟨g0, e1, e2⟩ := sb2 (by omega)
                    refine ⟨g0, at_ * 2, e2, fun j u hj => ?_⟩
                    have := row_part (owns_below (unhide HRW4) hbb) at_ (Lw.length - at_) e1 j u (by rw [List.take_of_length_le (by simp)]; exact hj)
                    exact this)
                  have HP2 := hide (pws_one (Lw.drop at_) (fun x hx => unhide HLO x (List.mem_of_mem_drop hx)))
                  have HB6 := hide hbb
                  have HN6 := hide n6'
                  have HL6 := hide (show (Lw.drop at_).length = Lw.length - at_ by simp)
                  rw [unhide HNW] at HL6 HSB
                  clear r6 o6 n6 hbb n6' sb2 y3 yl
                  go_wp2_with (first | (refine wp_sl rfl 90 (.tmp 195) (some (.tmp 196)) none rfl (.slice a k cap) (some (.int .i64 (at_ : Int))) none (by rfl) (by rfl) (by rfl) (.slice qb (k - at_) cb) (unhide HSB _) ?_) | (at_builtin; refine wp_appN rfl (.tmp 194) (.tmp 197) rfl (.slice p6 (at_ + 1) c6) (Lw.take at_ ++ [((((at_ + 1 : Nat) : Int), Lp.map (·.1)), Value.slice q Lp.length c)]) (Lw.drop at_) wb (by rfl) (unhide HR6) qb cb (k - at_) (by rfl) (unhide HL6) (unhide HM2) (unhide HP2) (by rw [unhide HL6, List.length_append, unhide HT1]; simp; omega) ?_))
                  intro v7 wd r7 o7 n7
                  have HF := hide (show Bd m Y P D vl vw vu gen root al nt Lp q c (Lw.take at_ ++ [((((at_ + 1 : Nat) : Int), Lp.map (·.1)), Value.slice q Lp.length c)] ++ Lw.drop at_) v7 last (p.pin (at_ + 1)) wd ∧ Only (FY P D vw vl vu Y) W wd by
                    have hb7 : Below w4.heap.size w4 wd := o7.below (unhide HB6) (unhide HB6).size (fun k hk => unhide HN6 k hk)
                    have ho7 := (unhide HO4).trans (Only.of_below (P := POf P D vw vl vu) hb7) (fun _ _ e => e)
                    have hpn := (unhide HPN).2.2
                    rw [unhide HLL] at hpn
                    refine ⟨(unhide HB3).pins ho7 ?_ ((unhide HD4).below hb7) (by have e : min at_ Lw.length = at_ := Nat.min_eq_left hatl; simpa [e] using r7) (fun k hk => Nat.le_trans (unhide HO4).size ((n7 k hk).elim (unhide HN6 k) (fun e => Nat.le_trans (unhide HB6).size e))) (fun x hx => ?_) (unhide HB3).few, unhide HOF _ ho7⟩
                    · have e : (Lw.take at_ ++ [((((at_ + 1 : Nat) : Int), Lp.map (·.1)), Value.slice q Lp.length c)] ++ Lw.drop at_).map (·.1) = ins1 (Lw.map (·.1)) (((at_ + 1 : Nat) : Int), Lp.map (·.1)) := by
                        unfold ins1
                        rw [unhide HLL]
                        simp [List.map_take, List.map_drop]
                      rw [e]
                      exact hpn
                    · rcases List.mem_append.1 hx with e | e
                      · rcases List.mem_append.1 e with e | e
                        · exact .inl (List.mem_of_mem_take e)
                        · rw [List.mem_singleton.1 e]
                          exact .inr ⟨rfl, rfl⟩
                      · exact .inl (List.mem_of_mem_drop e))
                  clear r7 o7 n7
                  go_wp2
                  go_meet
                  exact ⟨vw, vu, gen, root, al, nt, Lp, q, c, _, last, _, (unhide HF).1, by omega, by omega, by omega, fun k hk => .inl hk, (unhide HF).2, fun n _ _ => rfl⟩
        · by_cases hw1 : xw = 1 ∧ 0 < n
          · as_aux_lemma =>
              obtain ⟨rfl, hn0⟩ := hw1
              have hn0' : (0 : Int) < (n : Int) := by omega
              have HPK := hide (fun W' => pick_any xn n W' hn0 (by omega) hrn.1 hrn.2)
              have hpk := pkv_lt xn n hn0
              generalize pkv xn n = k at *
              have hkm : k < (Lw.map (·.1)).length := by rw [List.length_map, unhide HNW]; exact hpk
              obtain ⟨u1, u2, u3⟩ := (unhide HHD).unpin al k hkm
              have HPS := hide ((unhide HB3).pns (a := a) (n := n) (cap := cap) rfl)
              obtain ⟨gp, op, q1, c1, ea, hgp, hc0, _, _⟩ := ((unhide HPS) W (Only.refl _ _)).1.at hpk
              subst ea
              rw [show (Lw.map (fun x : Pw => x.1)).getD k noPn = (Lw.map (fun x : Pw => x.1))[k] by simp [show k < Lw.length by rw [unhide HNW]; exact hpk]] at hc0
              have HU1 := hide (unpin_any (unhide HB3).pd ((Lw.map (fun x : Pw => x.1))[k]).1)
              rw [u1] at HU1
              have HU2 := hide (fun (W' : World) (h : PD P D (Lv [] last al) (p.unpin ((Lw.map (fun x : Pw => x.1))[k]).1.toNat) vw vl vu W') => unpin_any h ((Lw.map (fun x : Pw => x.1))[k]).1)
              rw [u3] at HU2
              have HH2 := hide u2
              simp only at HU1 HU2
              obtain ⟨z, hz⟩ : ∃ z, ((Lw.map (fun x : Pw => x.1))[k]).1 = z := ⟨_, rfl⟩
              rw [hz] at hc0 HU1 HU2 HH2
              have HZZ := hide hz
              clear u1 u2 u3 hz
              go_wp2_with (refine (unhide HPK _).mono ?_; rintro e wa ⟨rfl, hwa⟩; rw [hwa]; clear hwa)
              refine (unhide HU1).mono ?_
              rintro e wa ⟨rfl, hpa, oa⟩
              have oA := unhide HON _ oa
              obtain ⟨gp', op', q1', c1', ea, hgp', hc0', _, _⟩ := ((unhide HPS) wa oA).1.at hpk
              cases ea
              rw [show (Lw.map (fun x : Pw => x.1)).getD k noPn = (Lw.map (fun x : Pw => x.1))[k] by simp [show k < Lw.length by rw [unhide HNW]; exact hpk], unhide HZZ] at hc0'
              have HOA := hide oA
              have HU3 := hide (unhide HU2 wa hpa)
              clear hpa oa oA HU1 HU2 hc0 hgp
              go_wp2_with fail
              refine (unhide HU3).mono ?_
              rintro e wb ⟨rfl, hpb, ob⟩
              have HOB := hide ((unhide HOA).trans (show Only (POf P D vw vl vu) wa wb from ob.mono (fun k _ r => r.elim (fun e => .inl e) (fun e => .inr (.inl e)))) (fun _ _ e => e))
              have HDB := hide hpb
              have HRWB := hide (owns_only (unhide HB3).rw (unhide HOB) (fun k hk r => (unhide HB3).rn k hk (.inl r)))
              clear hpb ob HU3 hc0' hgp'
              have hkl : k ≤ Lw.length := by rw [unhide HNW]; omega
              have hkl1 : k + 1 ≤ Lw.length := by rw [unhide HNW]; omega
              obtain ⟨qa, ca, sa1, sa2⟩ := sl_to (.slice (some ⟨gp, op, none⟩) n cap) Lw _ (unhide HRWB) k hkl
              obtain ⟨qb, cb, sb1, sb2⟩ := sl_from (.slice (some ⟨gp, op, none⟩) n cap) Lw _ (unhide HRWB) (k + 1) hkl1
              rw [unhide HNW] at sb1
              have HSA := hide sa1
              have HSB := hide (fun W' => (show (Instr.sliceAt 90 (.slice (some ⟨gp, op, none⟩) n cap) (some (.int .i64 ((k : Int) + 1))) none none).run Tryz.prog W' = .ok (.slice qb (n - (k + 1)) cb) W' from sb1 W'))
              have HLO := hide (show ∀ x ∈ Lw, x.2.oneCell' = true from fun x hx => by
                obtain ⟨q0, c0, e0, _⟩ := (unhide HB3).pn.here x hx
                rw [e0]; rfl)
              have HM1 := hide (show 0 < (Lw.take k).length → ∃ g o, qa = some ⟨g, o, none⟩ ∧ ∀ j u, (pws (Lw.take k))[j]? = some u → wb.cell? ⟨g, o + j, none⟩ = some u from fun h0 => by
                rw [List.length_take] at h0
                obtain ⟨g0, e1, e2⟩ := sa2 (by omega)
                refine ⟨g0, 0, e2, fun j u hj => ?_⟩
                have := row_part (unhide HRWB) 0 k e1 j u (by rw [List.drop_zero]; exact hj)
                rwa [Nat.zero_mul] at this)
              have HT1 := hide (show (Lw.take k).length = k by rw [List.length_take]; omega)
              have HP1 := hide (pws_one (Lw.take k) (fun x hx => unhide HLO x (List.mem_of_mem_take hx)))
              clear sa1 sb1 sa2 z0 z1 z2 z3 zl HPK HPS
              go_wp2_with (first | (refine wp_sl rfl 90 (.tmp 232) none (some (.tmp 233)) rfl (.slice (some ⟨gp, op, none⟩) n cap) none (some (.int .i64 (k : Int))) (by rfl) (by rfl) (by rfl) (.slice qa k ca) (unhide HSA _) ?_) | (at_builtin; refine wp_appN rfl (.tmp 231) (.tmp 234) rfl (.slice none 0 0) [] (Lw.take k) wb (by rfl) (owns_nil _ _ _) qa ca k (by rfl) (unhide HT1) (unhide HM1) (unhide HP1) (by rw [unhide HT1]; simp; omega) ?_))
              intro v5 wc5 r5 o5 n5
              have b5 : Below wb.heap.size wb wc5 := o5.below (Below.refl _ _) (Nat.le_refl _) (fun _ e => nomatch e)
              have n5' : ∀ k, v5.ownBlock = some k → wb.heap.size ≤ k := fun k hk => (n5 k hk).elim (fun e => nomatch e) id
              obtain ⟨p5, c5, e5⟩ := owns_form r5
              subst e5
              have HR5 := hide r5
              have HN5 := hide n5'
              have HB5 := hide b5
              have HM2 := hide (show 0 < (Lw.drop (k + 1)).length → ∃ g o, qb = some ⟨g, o, none⟩ ∧ ∀ j u, (pws (Lw.drop (k + 1)))[j]? = some u → wc5.cell? ⟨g, o + j, none⟩ = some u from fun h0 => by
                rw [List.length_drop] at h0
                obtain ⟨g0, e1, e2⟩ := sb2 (by omega)
                refine ⟨g0, (k + 1) * 2, e2, fun j u hj => ?_⟩
                have := row_part (owns_below (unhide HRWB) b5) (k + 1) (Lw.length - (k + 1)) e1 j u (by rw [List.take_of_length_le (by simp)]; exact hj)
                exact this)
              have HP2 := hide (pws_one (Lw.drop (k + 1)) (fun x hx => unhide HLO x (List.mem_of_mem_drop hx)))
              have HL6 := hide (show (Lw.drop (k + 1)).length = n - (k + 1) by rw [List.length_drop, unhide HNW])
              clear r5 o5 n5 b5 n5' sb2
              go_wp2_with (first | (refine wp_sl rfl 90 (.tmp 237) (some (.tmp 239)) none rfl (.slice (some ⟨gp, op, none⟩) n cap) (some (.int .i64 ((k : Int) + 1))) none (by rfl) (by rfl) (by rfl) (.slice qb (n - (k + 1)) cb) (unhide HSB _) ?_) | (at_builtin; refine wp_appN rfl (.tmp 236) (.tmp 240) rfl (.slice p5 k c5) (Lw.take k) (Lw.drop (k + 1)) wc5 (by rfl) (by rw [unhide HT1]; exact unhide HR5) qb cb (n - (k + 1)) (by rfl) (unhide HL6) (unhide HM2) (unhide HP2) (by rw [unhide HL6, unhide HT1]; omega) ?_))
              intro v7 wd r7 o7 n7
              have HF := hide (show Bd m Y P D vl vw vu gen root al nt Lp q c (Lw.take k ++ Lw.drop (k + 1)) v7 last (p.unpin z.toNat) wd ∧ Only (FY P D vw vl vu Y) W wd by
                have hb7 : Below wb.heap.size wb wd := o7.below (unhide HB5) (unhide HB5).size (fun k hk => unhide HN5 k hk)
                have ho7 := (unhide HOB).trans (Only.of_below (P := POf P D vw vl vu) hb7) (fun _ _ e => e)
                refine ⟨(unhide HB3).pins ho7 ?_ ((unhide HDB).below hb7) (by have e : min k Lw.length = k := Nat.min_eq_left hkl; simpa [e] using r7) (fun k hk => Nat.le_trans (unhide HOB).size ((n7 k hk).elim (unhide HN5 k) (fun e => Nat.le_trans (unhide HB5).size e))) (fun x hx => ?_) (unhide HB3).few, unhide HOF _ ho7⟩
                · have e : (Lw.take k ++ Lw.drop (k + 1)).map (fun x : Pw => x.1) = (Lw.map (fun x : Pw => x.1)).eraseIdx k := by
                    rw [List.eraseIdx_eq_take_drop_succ]
                    simp [List.map_take, List.map_drop]
                  rw [e]
                  exact unhide HH2
                · rcases List.mem_append.1 hx with e | e
                  · exact .inl (List.mem_of_mem_take e)
                  · exact .inl (List.mem_of_mem_drop e))
              clear r7 o7 n7
              go_wp2
              go_meet
              exact ⟨vw, vu, gen, root, al, nt, Lp, q, c, _, last, _, (unhide HF).1, by omega, by omega, by omega, fun k hk => .inl hk, (unhide HF).2, fun n _ _ => rfl⟩
          · have hk5 := pkv_lt xm 5 (by omega)
            have HPK := hide (fun W' => pick_any xm 5 W' (by omega) (by omega) hrm.1 hrm.2)
            generalize pkv xm 5 = k0 at *
            obtain ⟨k, hk⟩ : ∃ k, k = 1 + k0 := ⟨_, rfl⟩
            have hkc : (1 : Int) + (k0 : Int) = ((k : Nat) : Int) := by omega
            have hk1 : 1 ≤ k ∧ k ≤ 5 := by omega
            have HK1 := hide hk1
            clear hk
            have HNX := hide ((unhide HHD).nexts (unhide HB3).pd k (by omega))
            have HFE := hide (unhide HHD).free
            obtain ⟨fr0, hfr0⟩ : ∃ fr0, fre m (Lp.map (fun x : Pv => x.1)) (Lw.map (fun x : Pw => x.1)) = fr0 := ⟨_, rfl⟩
            rw [hfr0] at HNX HFE
            have HFR0 := hide hfr0
            clear hfr0
            have hZP : Z ≠ P := fun e => by
              have h1 := (unhide HB3).pd.blk
              rw [← e, hZ, unhide HZ3] at h1
              cases h1
            have HZP := hide (hZ ▸ hZP)
            have hcase : (xw = 1 ∧ n = 0) ∨ ¬ xw = 1 := by
              by_cases e : xw = 1
              · exact .inl ⟨e, by omega⟩
              · exact .inr e
            clear hw1
            by_cases hfl : fr0.length < k
            · rw [if_pos hfl] at HNX
              simp only at HNX
              have hgq : decide ((k : Int) ≤ (fr0.length : Int)) = false := by simp; omega
              rcases hcase with ⟨rfl, rfl⟩ | hne
              all_goals (
                as_aux_lemma =>
                  go_wp2_with (refine (unhide HPK _).mono ?_; rintro e wa ⟨rfl, hwa⟩; rw [hwa]; clear hwa)
                  refine (unhide HNX).mono ?_
                  rintro e w1 ⟨V, rfl, _, hp1, o1⟩
                  have HB4 := hide ((unhide HB3).move (o1.mono (fun _ _ r => .inl r)) (unhide HHD) hp1)
                  have HO4 := hide (unhide HOF _ (o1.mono (fun _ _ r => .inl r)))
                  have hz4 := (o1.block _ (lt_of_row (unhide HZ3)) (unhide HZP)).trans (unhide HZ3)
                  have z3' := cell_of_row _ _ 3 _ 94 (0, 0) hz4
                  have zl' := lt_of_row hz4
                  have HFR := hide (fun n => free_any (hp1.below (Only.drewN (fun _ => False) w1 n).to_below))
                  rw [unhide HFE] at HFR
                  clear o1 hp1 HNX z0 z1 z2 z3 zl hz4
                  generalize fr0.length = F at *
                  go_wp2_with fail
                  go_quiet (first | (go_at_call 49; exact Calls.quiet_of_same (unhide HFR _)) | (go_at_call 18; exact Calls.quiet_of_same (unhide HPK _)))
                  go_wp2
                  go_meet
                  exact ⟨vw, vu, gen, root, al, nt, Lp, q, c, Lw, last, p, (unhide HB4).below (Only.drewN (fun _ => False) w1 _).to_below, by omega, by omega, by omega, fun k hk => .inl hk, (unhide HO4).trans (Only.drewN _ w1 _) (fun _ _ r => r), fun n _ _ => rfl⟩)
            · rw [if_neg hfl] at HNX
              simp only at HNX
              rcases hcase with ⟨rfl, rfl⟩ | hne
              all_goals (
                as_aux_lemma =>
                  go_wp2_with (refine (unhide HPK _).mono ?_; rintro e wa ⟨rfl, hwa⟩; rw [hwa]; clear hwa)
                  refine (unhide HNX).mono ?_
                  rintro e w1 ⟨V, rfl, hV, hp1, o1⟩
                  have hB4 := (unhide HB3).move (o1.mono (fun _ _ r => .inl r)) (unhide HHD) hp1
                  have hO4 := unhide HOF _ (o1.mono (fun _ _ r => .inl r))
                  have hz4 := (o1.block _ (lt_of_row (unhide HZ3)) (unhide HZP)).trans (unhide HZ3)
                  have z2' := cell_of_row _ _ 2 _ 94 (0, 0) hz4
                  have z3' := cell_of_row _ _ 3 _ 94 (0, 0) hz4
                  have zl' := lt_of_row hz4
                  have y0 := cell_of_row _ _ 0 _ 83 (0, 0) hB4.st
                  have y1 := cell_of_row _ _ 1 _ 83 (0, 0) hB4.st
                  have y2 := cell_of_row _ _ 2 _ 83 (0, 0) hB4.st
                  have y3 := cell_of_row _ _ 3 _ 83 (0, 0) hB4.st
                  have yl := lt_of_row hB4.st
                  have hfl1 : (fr0.take k).length = k := by rw [List.length_take]; omega
                  obtain ⟨fr, hfr⟩ : ∃ fr, fr0.take k = fr := ⟨_, rfl⟩
                  rw [hfr] at hV hfl1
                  obtain ⟨fa, fc, rfl⟩ := owns_form hV.1
                  have hgn := (unhide HHD).gn
                  have HLN := hide (lnext_any gen root xh xm (j : Int) nt q c Lp fa fc fr w1 hB4.sp.here (ins_of hV.1) (by omega) (by omega) (by have := hB4.few; omega) (by omega) (by omega) hrh (fun x hx => by
                    obtain ⟨q0, c0, e0, _⟩ := sps_lnk hB4.sp.here x hx
                    rw [e0]; rfl))
                  have HB4 := hide hB4
                  have HO4 := hide hO4
                  have HSZ4 := hide o1.size
                  have HFR := hide hfr
                  have HFL := hide hfl
                  clear o1 hp1 hV HNX z0 z1 z2 z3 zl hz4 hB4 hO4 hfr hfl hfl1 HFE
                  go_wp2_with fail
                  refine (unhide HLN).mono ?_
                  rintro e w2 ⟨rt, Lf, Ln, G, vf, vn, vg, rfl, hN⟩
                  obtain ⟨a1, c1, rfl⟩ := owns_form hN.rf
                  obtain ⟨qn, cn, rfl⟩ := owns_form hN.rn
                  obtain ⟨a2, c2, rfl⟩ := owns_form hN.rg
                  have hb3 := belowR ((Below.refl w2.heap.size w2).alloc (Nat.le_refl _) (.cells #[I 0, I 0, .string ⟨#[]⟩, .slice none 0 0] 83)) (Nat.le_refl _) #[I (gen + 1), I rt, S (nte (j : Int)), .slice qn Ln.length cn]
                  have hx3 := setRow_row (vs := #[I (gen + 1), I rt, S (nte (j : Int)), .slice qn Ln.length cn]) (heap_alloc_new w2 (.cells #[I 0, I 0, .string ⟨#[]⟩, .slice none 0 0] 83))
                  have HA3 := hide (heap_alloc_new w2 (.cells #[I 0, I 0, .string ⟨#[]⟩, .slice none 0 0] 83))
                  obtain ⟨last', p', hd', hu', hl5, hC⟩ := (unhide HB4).commit k (by omega) (by omega) (by rw [unhide HFR0]; have := unhide HFL; omega) (by rw [unhide HFR0]; exact (unhide HFR).symm) (by omega) (by omega) hN hb3
                  have hY3 : ((w2.alloc (.cells #[I 0, I 0, .string ⟨#[]⟩, .slice none 0 0] 83)).setRow w2.heap.size #[I (gen + 1), I rt, S (nte (j : Int)), .slice qn Ln.length cn]).heap[Y]? = some (.cells #[I gen, I root, S nt, .slice q Lp.length c] 83 (0, 0)) := (hb3.block _ (by have := hN.bel.size; omega)).trans ((hN.bel.block _ yl).trans (unhide HB4).st)
                  have x1 := cell_of_row _ _ 1 _ 83 (0, 0) hx3
                  have x2 := cell_of_row _ _ 2 _ 83 (0, 0) hx3
                  have xl := lt_of_row hx3
                  have hx4 : ¬ POf P D vw vl vu w2.heap.size := fun e => by
                    have h1 := (unhide HB4).pd.old _ e
                    have h2 := hN.bel.size
                    omega
                  have HX4 := hide hx4
                  have HX3 := hide hx3
                  have HB3' := hide hb3
                  have HD' := hide hd'
                  have HU' := hide hu'
                  have HC := hide hC
                  have HY3 := hide hY3
                  have HN := hide hN
                  clear hb3 hx3 hd' hu' hC hY3 hN hx4 HLN y0 y1 y2 y3 yl z2' z3' zl'
                  generalize nte (j : Int) = nc at *
                  go_wp2_with (refine wp_st83 rfl (.tmp 27) (.tmp 127) rfl w2.heap.size (by rfl) (gen + 1) rt nc (.slice qn Ln.length cn) rfl (by rfl) _ rfl (unhide HA3) ?_; generalize (w2.alloc (.cells #[I 0, I 0, .string ⟨#[]⟩, .slice none 0 0] 83)).setRow w2.heap.size #[I (gen + 1), I rt, S nc, .slice qn Ln.length cn] = w3 at *)
                  refine (unhide HC).mono ?_
                  rintro e w4 ⟨rfl, ht⟩
                  obtain ⟨vw1, vu1, _, o4, _, _⟩ := id ht
                  have hx4 := (o4.block _ (lt_of_row (unhide HX3)) (unhide HX4)).trans (unhide HX3)
                  have HY4 := hide ((o4.block _ (lt_of_row (unhide HY3)) (unhide HB4).yn).trans (unhide HY3))
                  have x0 := cell_of_row _ _ 0 _ 83 (0, 0) hx4
                  have x1' := cell_of_row _ _ 1 _ 83 (0, 0) hx4
                  have x2' := cell_of_row _ _ 2 _ 83 (0, 0) hx4
                  have x3' := cell_of_row _ _ 3 _ 83 (0, 0) hx4
                  have xl' := lt_of_row hx4
                  have HF := hide ((unhide HB4).turn (nt' := nc) (unhide HN) (unhide HB3') ht (unhide HD'))
                  clear ht o4 hx4 x1 x2 xl HC
                  generalize w2.heap.size = X at *
                  go_wp2_with (refine wp_st83 rfl (.tmp 11) (.tmp 139) rfl Y (by rfl) (gen + 1) rt nc (.slice qn Ln.length cn) rfl (by rfl) _ rfl (unhide HY4) ?_)
                  generalize w4.setRow Y #[I (gen + 1), I rt, S nc, .slice qn Ln.length cn] = w5 at *
                  obtain ⟨vw', vu', f1, f2, f3⟩ := unhide HF
                  have HF1 := hide f1
                  have HF2 := hide (fun k e => (f2 k e).imp id (fun e => Nat.le_trans (unhide HSZ4) e))
                  have HF3 := hide ((unhide HO4).trans f3 (fun _ _ r => r))
                  clear f1 f2 f3 HF x0 x1' x2' x3' xl'
                  go_wp2
                  go_meet
                  exact ⟨vw', vu', gen + 1, rt, _, nc, Ln, qn, cn, Lw, last', p', unhide HF1, by omega, by omega, by omega, unhide HF2, unhide HF3, unhide HU'⟩)
      case rest =>
        as_aux_lemma =>
          obtain ⟨vw', vu', gen', root', al', nt', Lp', q', c', Lw', last', p', hB, hg', ha0, ha1, hfy, hon, hla⟩ := hcut
          obtain ⟨a', cap', ev⟩ := owns_form hB.rw
          obtain ⟨n', hnw'⟩ : ∃ n', Lw'.length = n' := ⟨_, rfl⟩
          rw [hnw'] at ev
          subst ev
          have HBK := hide (blocks_any hB.pd.dat (fun y hy => by have := hB.hd.d5 y hy; omega) (by rw [show (Lv [] last' al').last = last' from rfl, hB.hd.dl]; have := hB.hd.m8; omega))
          rw [show (Lv [] last' al').last = last' from rfl, hB.hd.dl] at HBK
          have hdl0 := (unhide HB3).hd.dl
          have HLC := hide (hon.below (unhide HL3) (unhide HL3).size (fun k hk => unhide HFY k hk))
          have HRVc := hide (owns_only (unhide HRV) hon (unhide HCV))
          have HRBc := hide (owns_only (unhide HRB3) hon (unhide HBV))
          rw [hdl0] at HRBc
          have HBc := hide hB
          have hbz : ∀ z ∈ H ++ G, ∃ zn : Nat, z = (zn : Int) ∧ zn < m ∧ last'.getD zn [] = last.getD zn [] := by
            intro z hz
            have hh := (unhide HB3).hd
            rcases List.mem_append.1 hz with e | e
            · rw [← unhide HH] at e
              obtain ⟨zn, rfl, h1, h2⟩ := hh.hdl_mem e
              exact ⟨zn, rfl, h1, hla zn h1 h2⟩
            · rw [← unhide HG] at e
              obtain ⟨y, hy, rfl⟩ := List.mem_map.1 e
              have hyp := hh.pg y (.inl hy)
              refine ⟨y.number.toNat, by omega, by omega, hla _ (by omega) (usd_of y _ (by omega) hh.pk (.inl hy))⟩
          have HBZ := hide hbz
          have hdl1 := hB.hd.dl
          have HNX := hide (show gen' ≤ ((j + 1 : Nat) : Int) + 1 ∧ 0 ≤ al' ∧ al' ≤ 100 * ((j + 1 : Nat) : Int) + 3 ∧ (∀ k, FY P D vw' vl vu' Y k → w.heap.size ≤ k) from ⟨by omega, by omega, by omega, fun k hk => (hfy k hk).elim (unhide HFY k) (fun e => Nat.le_trans (unhide HL3).size e)⟩)
          have hBl : (H ++ G).length ≤ 10000 := by rw [List.length_append]; omega
          clear hB hg' ha0 ha1 hfy hon hla hbz HRV HRB3 HCV HBV HB3 HZ3 HL3 HFY hHl hGl HH HG
          go_wp2_with fail
          refine (unhide HBK).mono ?_
          rintro e w9 ⟨Vn, rfl, rn9, nn9, b9⟩
          obtain ⟨ga, ca, cur1, en, hg1, _⟩ := owns_at rn9 (by omega)
          subst en
          obtain ⟨gc, cc, cur2, eb, hg2, _⟩ := owns_at (unhide HRBc) (by omega)
          subst eb
          have HRN9 := hide rn9
          have HRV9 := hide (owns_below (unhide HRVc) b9)
          have HRB9 := hide (owns_below (unhide HRBc) b9)
          have HB9 := hide ((unhide HBc).below b9)
          have HL9 := hide ((unhide HLC).trans (b9.mono (unhide HLC).size))
          obtain ⟨pb, cb, e3⟩ := owns_form (unhide HRV9)
          obtain ⟨B, hBe⟩ : ∃ B, H ++ G = B := ⟨_, rfl⟩
          rw [hBe] at HRV9 HBZ e3 hBl
          subst e3
          clear rn9 nn9 b9 hg1 hg2 HRVc HRBc HBc HLC HBK hBe
          go_wp2
          go_loopw [31] (fun i wr => ∃ k : Nat, k ≤ B.length ∧ i = .int .i64 k ∧ Below w9.heap.size w9 wr) (fun i _ => B.length - (Go.RowKit.intOf i).toNat)
          case atStart => exact ⟨0, by omega, rfl, Below.refl _ _⟩
          case round =>
            obtain ⟨k, hk, rfl, hb⟩ := hrel
            by_cases hkl : k < B.length
            · have hkl' : (k : Int) < (B.length : Int) := by omega
              obtain ⟨gb, cb', cur3, eb3, _⟩ := owns_at (unhide HRV9) (by omega)
              cases eb3
              obtain ⟨zn, hze, hzm, hzq⟩ := unhide HBZ _ (getD_in B 0 k hkl)
              obtain ⟨s, hs⟩ : ∃ s, last.getD zn [] = s := ⟨_, rfl⟩
              rw [hs] at hzq
              have k4 : wr.cell? ⟨gb, 0 + k, none⟩ = some (I (zn : Int)) := by
                have := World.ownsRow.cells (owns_below (unhide HRV9) hb) (g := gb) rfl k (I (B.getD k 0)) (by simp [hkl])
                rw [add_at, hze] at this
                rw [Nat.zero_add]
                exact this
              have k6 : wr.cell? ⟨ga, 0 + zn, none⟩ = some (S s) := by
                have := World.ownsRow.cells (owns_below (unhide HRN9) hb) (g := ga) rfl zn (S (last'.getD zn [])) (by simp [show zn < last'.length by omega])
                rw [add_at, hzq] at this
                rw [Nat.zero_add]
                exact this
              have k13 : wr.cell? ⟨gc, 0 + zn, none⟩ = some (S s) := by
                have := World.ownsRow.cells (owns_below (unhide HRB9) hb) (g := gc) rfl zn (S (last.getD zn [])) (by simp [show zn < last.length by omega])
                rw [add_at, hs] at this
                rw [Nat.zero_add]
                exact this
              have HK := hide (And.intro k4 (And.intro k6 k13))
              have HBB := hide hb
              have hl4 := And.intro (blk_lt k4) (And.intro (blk_lt k6) (blk_lt k13))
              have HL4 := hide hl4
              clear k4 k6 k13 hb hl4 hze hzq hs
              go_upto_region 56 with fail
              refine rbh56 ga m ca gb B.length cb gc m cc k zn s s false (by kernel_rfl) (by kernel_rfl) (by kernel_rfl) _ _ (by show 265 ≤ Array.size _; simp) rfl rfl rfl rfl (fun _ _ W => Below wr.heap.size wr W) ⟨(), (Below.refl _ _).drew⟩ ?_ ?_ ?_ ?_ ?_ ?_ ?_ ?_ ?_ ?_ ?_
              · exact fun _ _ _ _ _ h => h
              · exact fun W => s_ix22 gb 0 B.length cb k hkl
              · exact fun _ _ W hW _ _ => s_ld Tryz.isAgg3 ((hW.cell (unhide HL4).1).trans (unhide HK).1)
              · exact fun W => s_x64 ga m ca zn hzm
              · exact fun _ _ W hW _ _ => s_ld Tryz.isAgg9 ((hW.cell (unhide HL4).2.1).trans (unhide HK).2.1)
              · exact fun W => s_ix22 gb 0 B.length cb k hkl
              · exact fun _ _ W hW _ _ => s_ld Tryz.isAgg3 ((hW.cell (unhide HL4).1).trans (unhide HK).1)
              · exact fun W => s_x64 gc m cc zn hzm
              · exact fun _ _ W hW _ _ => s_ld Tryz.isAgg9 ((hW.cell (unhide HL4).2.2).trans (unhide HK).2.2)
              · exact fun W => s_neS _ _ s
              intro _ _ W' _ hW
              have HBW := hide ((unhide HBB).trans (hW.mono (unhide HBB).size))
              clear hW HK HBB HL4
              simp only [Act.put, List.setIfInBounds_toArray, List.set_cons_succ, List.set_cons_zero]
              go_wp2
              go_round
              case measure => simp [Go.RowKit.intOf] <;> omega
              case rel => exact ⟨k + 1, by omega, by simp, unhide HBW⟩
            · obtain rfl : k = B.length := by omega
              have hkl' : ¬ ((B.length : Nat) : Int) < ((B.length : Nat) : Int) := by omega
              have hBf := (unhide HB9).below hb
              have HHO := hide (hBf.holds (a := a') (n := n') (cap := cap') rfl)
              have x0 := cell_of_row _ _ 0 _ 83 (0, 0) hBf.st
              have x1 := cell_of_row _ _ 1 _ 83 (0, 0) hBf.st
              have x2 := cell_of_row _ _ 2 _ 83 (0, 0) hBf.st
              have x3 := cell_of_row _ _ 3 _ 83 (0, 0) hBf.st
              have hxl := lt_of_row hBf.st
              have HLF := hide ((unhide HL9).trans (hb.mono (unhide HL9).size))
              clear hBf hb
              go_wp2_with fail
              refine (unhide HHO).mono ?_
              rintro e w10 ⟨rfl, hB10, o10⟩
              obtain ⟨n1, n2, n3', n4⟩ := unhide HNX
              have HF := hide (show Hd8 w m Y P D vl (j + 1) (.slice a' n' cap') w10 from ⟨vw', vu', gen', root', al', nt', Lp', q', c', Lw', last', p', hB10, n1, n2, n3', n4, o10.below (unhide HLF) (unhide HLF).size (fun k hk => by rw [show k = P from hk]; exact n4 P (.inl (.inl rfl)))⟩)
              clear hB10 o10 n1 n2 n3' n4 x0 x1 x2 x3 hxl
              go_wp2
              go_round
              case measure => simp [Go.RowKit.intOf] <;> omega
              case rel => exact ⟨j + 1, by omega, by simp, unhide HF⟩
    · go_wp2
      go_ret
      exact ⟨rfl, hbw⟩
end Go.Proofs.YtjopnhhdemfniaaGreatDoor
