import Derived.Test.YtjopnhhdemfniaaGreatDoorZpim
import Derived.Test.YtjopnhhdemfniaaGreatDoorZpic
import Derived.Test.YtjopnhhdemfniaaGreatDoorZphe
import Derived.Test.YtjopnhhdemfniaaGreatDoorZphd
/- The disk and the pager of the law's first calls, of lists alone. -/
namespace Go.Proofs.YtjopnhhdemfniaaGreatDoor
/-- A disk that lives, with no fuse. -/
def Lv (ws : List Wr) (last : List Bs) (k : Int) : Ds := ⟨ws, last, 0, false, k⟩
theorem lv_reach (ws : List Wr) (last : List Bs) (k : Int) {b : Int} (h0 : 0 ≤ b) (h1 : b < last.length) : reachv (Lv ws last k) b = 0 := by
  unfold reachv Lv
  simp only
  rw [if_neg (by simp), if_neg (by omega), if_neg (by omega)]
theorem lv_act (ws : List Wr) (last : List Bs) (k : Int) : actv (Lv ws last k) = 0 ∧ (Lv ws last k).act = Lv ws last (k + 1) := ⟨rfl, rfl⟩
theorem lv_write (ws : List Wr) (last : List Bs) (k : Int) {b : Int} (h0 : 0 ≤ b) (h1 : b < last.length) {s : Bs} (hs : s.length = 512) : writev (Lv ws last k) b s = 0 ∧ (Lv ws last k).write b s = Lv (putW ws b.toNat s) last (k + 1) := by
  have hr := lv_reach ws last k h0 h1
  obtain ⟨a1, a2⟩ := lv_act ws last k
  unfold writev Ds.write
  rw [if_neg (by simp [hs]), if_neg (by simp [hr]), if_neg (by simp [hs]), if_neg (by simp [hr]), if_neg (by simp [a1]), a2]
  exact ⟨a1, rfl⟩
theorem lv_sync (ws : List Wr) (last : List Bs) (k : Int) : syncv (Lv ws last k) = 0 ∧ (Lv ws last k).sync = Lv [] (snc last ws ws.length) (k + 1) := ⟨rfl, rfl⟩
theorem zs_len : zs.length = 512 := List.length_replicate
theorem phr_zs : phr zs = (noHd, 90) := by
  have hg : (ghd zs).may = false := by
    have : (ghd zs).gen = 0 := by
      show ((nat (((List.replicate 512 0).drop 4).take 8) : Nat) : Int) = 0
      rw [List.drop_replicate, List.take_replicate]
      rfl
    unfold Hd.may isGn
    rw [this]
    rfl
  unfold phr phd
  rw [if_neg (by rw [hg]; simp)]
/-- Eight blocks. -/
def Bl (a b c : Bs) : List Bs := [a, b, c, zs, zs, zs, zs, zs]
def Dk (a b c : Bs) (k : Int) : Ds := Lv [] (Bl a b c) k
theorem hon_zs (b c : Bs) (k : Int) : hon (Dk zs b c k) 0 = (noHd, false) := by
  have hr : reachv (Dk zs b c k) ((0 : Nat) : Int) = 0 := lv_reach _ _ _ (by omega) (by show (0 : Int) < 8; omega)
  have hc : cur (Dk zs b c k) 0 = zs := rfl
  unfold hon hok
  rw [if_pos hr, hc, phr_zs]
  rfl
theorem hct_none (c : Bs) (k : Int) : (hct (Dk zs zs c k)).2 = false := by
  have h1 : hon (Dk zs zs c k) 1 = (noHd, false) := by
    have hr : reachv (Dk zs zs c k) ((1 : Nat) : Int) = 0 := lv_reach _ _ _ (by omega) (by show (1 : Int) < 8; omega)
    have hc : cur (Dk zs zs c k) 1 = zs := rfl
    unfold hon hok
    rw [if_pos hr, hc, phr_zs]
    rfl
  unfold hct
  simp only [lst, hon_zs, h1]
  rfl
theorem hct_one (h : Hd) (hm : h.may = true) (hb : h.blocks = 8) (hg : h.gen = 1) (c : Bs) (k : Int) : hct (Dk zs h.blk c k) = (h, true) := by
  have h1 : hon (Dk zs h.blk c k) 1 = (h, true) := by
    have hr : reachv (Dk zs h.blk c k) ((1 : Nat) : Int) = 0 := lv_reach _ _ _ (by omega) (by show (1 : Int) < 8; omega)
    have hc : cur (Dk zs h.blk c k) 1 = h.blk := rfl
    have hp : phr h.blk = (h, 0) := by unfold phr; rw [phd_blk hm]
    have hl : (Dk zs h.blk c k).last.length = 8 := rfl
    unfold hon hok
    rw [if_pos hr, hc, hp, hb, hg, hl]
    rfl
  have h0 := hon_zs h.blk c k
  have l1 : lst (Dk zs h.blk c k) 1 = noHd := by
    show (if (hon (Dk zs h.blk c k) 0).2 = true ∧ _ then _ else noHd) = noHd
    rw [h0, if_neg (by simp)]
  have l2 : lst (Dk zs h.blk c k) 2 = h := by
    show (if (hon (Dk zs h.blk c k) 1).2 = true ∧ (lst (Dk zs h.blk c k) 1).gen < (hon (Dk zs h.blk c k) 1).1.gen then (hon (Dk zs h.blk c k) 1).1 else lst (Dk zs h.blk c k) 1) = h
    rw [h1, l1]
    exact if_pos ⟨rfl, by rw [hg]; decide⟩
  unfold hct
  rw [l2, hg]
  rfl
def hA (n : Bs) : Hd := ⟨1, 0, 8, n⟩
def hB (n : Bs) : Hd := ⟨2, 2, 8, n⟩
theorem hA_may {n : Bs} (h : n.length = 16) : (hA n).may = true := by
  unfold hA Hd.may
  simp only
  rw [h]
  rfl
theorem hB_may {n : Bs} (h : n.length = 16) : (hB n).may = true := by
  unfold hB Hd.may
  simp only
  rw [h]
  rfl
theorem fmt_new {n : Bs} (hn : n.length = 16) : fmt (Dk zs zs zs 0) n = (0, Dk zs (hA n).blk zs 3) := by
  have hw := lv_write [] (Bl zs zs zs) 0 (b := 0) (by omega) (by show (0 : Int) < 8; omega) zs_len
  have e1 : fst1 (Dk zs zs zs 0) n = hA n := rfl
  have hl := Hd.blk_len (Hd.may_note (hA_may hn))
  generalize hBK : (hA n).blk = BK at *
  have hw2 := lv_write [(0, zs)] (Bl zs zs zs) 1 (b := 1) (by omega) (by show (1 : Int) < 8; omega) hl
  have hs := lv_sync [(0, zs), (1, BK)] (Bl zs zs zs) 2
  have hwd : (Dk zs zs zs 0).write 0 zs = Lv [(0, zs)] (Bl zs zs zs) 1 := hw.2
  have hw1 : writev (Dk zs zs zs 0) 0 zs = 0 := hw.1
  have hg : (hA n).gen % 2 = 1 := rfl
  have hp : putW [(0, zs)] (1 : Int).toNat BK = [(0, zs), (1, BK)] := rfl
  unfold fmt
  rw [if_neg (by simp [hn]), if_neg (show ¬ (Dk zs zs zs 0).dead = true from Bool.false_ne_true), if_neg (by rw [hct_none]; simp), if_neg (by simp [hw1]), e1, hwd]
  unfold wrhv wrhd
  rw [hg, hBK, if_neg (by simp [hw2.1]), if_neg (by simp [hw2.1]), hw2.2, hp]
  exact Prod.ext hs.1 hs.2
theorem mnt_new {n : Bs} (hn : n.length = 16) : hct (Dk zs (hA n).blk zs 3) = (hA n, true) := hct_one (hA n) (hA_may hn) rfl rfl zs 3
/-- The page that is committed. -/
def pgA : Pg := ⟨1, 2, 0, [], [97]⟩
def prA (n : Bs) : Pr := ⟨hA n, List.replicate 8 0, 0, false⟩
def prB (n : Bs) : Pr := ⟨hB n, [0, 0, 1, 0, 0, 0, 0, 0], 0, false⟩
theorem clo_new : clo (after (List.replicate 8 0) [2] []) [pgA] 2 = true := by decide
theorem after_new : after (List.replicate 8 0) [2] [] = [0, 0, 1, 0, 0, 0, 0, 0] := by decide
theorem has_two : hasv [0, 0, 1, 0, 0, 0, 0, 0] 2 255 = true := by decide
theorem has_three : hasv [0, 0, 1, 0, 0, 0, 0, 0] 3 255 = false := by decide
theorem pgA_may : (pgA.born 2).may = true := rfl
theorem prA_ok {n b c : Bs} {k : Int} (hn : n.length = 16) : Prok (Dk zs b c k) (prA n) := ⟨hA_may hn, rfl, rfl, (show (List.replicate 8 (0 : UInt8)).getD 0 0 &&& 1 = 0 by decide), (show (List.replicate 8 (0 : UInt8)).getD 1 0 &&& 1 = 0 by decide)⟩
theorem nxt_new (n b c : Bs) (k : Int) : nxt (Dk zs b c k) (prA n) 2 = ([2, 3], 0) := rfl
theorem trv_new {n b : Bs} {k : Int} (hn : n.length = 16) : trv (Dk zs b zs k) [pgA] (hB n) = 0 ∧ trd (Dk zs b zs k) [pgA] (hB n) = Dk (hB n).blk b (pgA.born 2).blk (k + 1 + 1 + 1 + 1) := by
  have hl := Hd.blk_len (Hd.may_note (hB_may hn))
  have hpl := Pg.blk_len pgA_may
  generalize hBK : (hB n).blk = BK at *
  generalize hPK : (pgA.born 2).blk = PK at *
  have w1 := lv_write [] (Bl zs b zs) k (b := 2) (by omega) (by show (2 : Int) < 8; omega) hpl
  have s1 := lv_sync [(2, PK)] (Bl zs b zs) (k + 1)
  have w2 := lv_write [] (Bl zs b PK) (k + 1 + 1) (b := 0) (by omega) (by show (0 : Int) < 8; omega) hl
  have s2 := lv_sync [(0, BK)] (Bl zs b PK) (k + 1 + 1 + 1)
  have p1 : putW [] (2 : Int).toNat PK = [(2, PK)] := rfl
  have p2 : putW [] (0 : Int).toNat BK = [(0, BK)] := rfl
  rw [p1] at w1
  rw [p2] at w2
  have e1 : wps 2 (Dk zs b zs k) [pgA] = (0, Lv [] (Bl zs b PK) (k + 1 + 1)) := by
    unfold wps
    rw [show pgA.number = 2 from rfl, hPK, if_neg (by rw [show writev (Dk zs b zs k) 2 PK = 0 from w1.1]; simp), show (Dk zs b zs k).write 2 PK = Lv [(2, PK)] (Bl zs b zs) (k + 1) from w1.2]
    unfold wps
    exact Prod.ext s1.1 s1.2
  have hg : (hB n).gen = 2 := rfl
  have hg2 : (2 : Int) % 2 = 0 := rfl
  unfold trv trd
  rw [hg, e1, if_neg (by simp), if_neg (by simp)]
  unfold wrhv wrhd
  simp only
  rw [hg, hg2, hBK, if_neg (by simp [w2.1]), if_neg (by simp [w2.1]), w2.2]
  exact ⟨s2.1, s2.2⟩
theorem cmr_new {n m b : Bs} {k : Int} (hm : m.length = 16) : cmr (Dk zs b zs k) (prA n) [pgA] 2 m [] = (0, Dk (hB m).blk b (pgA.born 2).blk (k + 1 + 1 + 1 + 1), prB m) := by
  obtain ⟨t1, t2⟩ := trv_new (n := m) (b := b) (k := k) hm
  have hask : (prA n).ask (Dk zs b zs k) = prA n := rfl
  have hnx : nxh (prA n) 2 m = hB m := rfl
  unfold cmr
  rw [if_neg (by simp [hm]), if_neg (by rw [show ([pgA].all Pg.fresh && rsg ([pgA].map Pg.number) && rsg []) = true from rfl]; simp), if_neg (by rw [show askv (Dk zs b zs k) (prA n) = 0 from rfl]; simp), hask, hnx, t1, t2]
  rw [if_neg (by rw [show (decide (List.map Pg.number [pgA] = List.take [pgA].length (sel (prA n).use frb)) && [].all fun x => hasv (prA n).use x 1) = true from rfl]; simp), if_neg (by rw [show clo (after (prA n).use (List.map Pg.number [pgA]) []) [pgA] 2 = true from clo_new]; simp), if_neg (show ¬ (prA n).h.gen = 4611686018427387904 from (show ¬ (1 : Int) = 4611686018427387904 by decide)), if_pos rfl]
  rw [show after (prA n).use (List.map Pg.number [pgA]) [] = [0, 0, 1, 0, 0, 0, 0, 0] from after_new]
  rfl
theorem read_two (c b PK : Bs) (k : Int) : readS (Dk c b PK k) 2 = PK := by
  have q : reachv (Dk c b PK k) 2 = 0 := lv_reach [] (Bl c b PK) k (by omega) (by show (2 : Int) < 8; omega)
  unfold readS
  rw [if_pos q]
  rfl
theorem rdp_gen {m b c PK : Bs} {k : Int} (x : Pg) (hk : prs PK = some x) : rdp (Dk c b PK k) (prB m) 2 = (x, 0) := by
  unfold rdp
  rw [if_neg (by rw [show askv (Dk c b PK k) (prB m) = 0 from rfl]; simp), if_neg (by rw [show hasv (prB m).use 2 255 = true from has_two]; simp), read_two]
  unfold prp
  rw [hk]
theorem rdp_two {m b c : Bs} {k : Int} : rdp (Dk c b (pgA.born 2).blk k) (prB m) 2 = (pgA.born 2, 0) := rdp_gen (pgA.born 2) (prs_blk pgA_may)
theorem rdp_three {m b c e : Bs} {k : Int} : rdp (Dk c b e k) (prB m) 3 = (noPg, 93) := by
  unfold rdp
  rw [if_neg (by rw [show askv (Dk c b e k) (prB m) = 0 from rfl]; simp), if_pos (show hasv (prB m).use 3 255 = false from has_three)]
end Go.Proofs.YtjopnhhdemfniaaGreatDoor
namespace Go.Proofs.YtjopnhhdemfniaaGreatDoor
open Go.RowKit
set_option maxHeartbeats 8000000
set_option maxRecDepth 8000
theorem dk_ok {a b c : Bs} {k : Int} (ha : a.length = 512) (hb : b.length = 512) (hc : c.length = 512) : Ok (Dk a b c k) := by
  refine ⟨fun i j h1 h2 => absurd h2 (Nat.not_lt_zero _), fun x hx => (nomatch hx), fun x hx => ?_, ⟨by show 8 ≤ 8; omega, by show 8 ≤ 4096; omega⟩, ⟨by show (0 : Int) ≤ 0; omega, by show (0 : Int) ≤ 9223372036854775807; omega⟩⟩
  have hx' : x ∈ [a, b, c, zs, zs, zs, zs, zs] := hx
  have hz := zs_len
  simp only [List.mem_cons, List.not_mem_nil, or_false] at hx'
  rcases hx' with rfl | rfl | rfl | rfl | rfl | rfl | rfl | rfl <;> assumption
theorem pgs_one {W : World} {g : Nat} (h : W.heap[g]? = some (.cells #[I 1, I 2, I 0, .slice none 0 0, S [97]] 24 (0, 0))) : Pgs W (some ⟨g, 0, none⟩) 1 [pgA] := by
  refine ⟨rfl, fun _ => ⟨g, 0, rfl, fun j hj => ?_⟩⟩
  have hj0 : j = 0 := by omega
  subst hj0
  have := fun j => cell_of_row W g j _ 24 (0, 0) h
  exact ⟨none, 0, this 0, this 1, this 2, this 3, this 4, Ins.nil _ _⟩
def dA : Ds := Dk zs zs zs 0
def dB : Ds := Dk zs (hA (nte 1)).blk zs 3
def dC : Ds := Dk (hB (nte 2)).blk (hA (nte 1)).blk (pgA.born 2).blk (3 + 1 + 1 + 1 + 1)
def qA : Pr := prA (nte 1)
def qB : Pr := prB (nte 2)
theorem okB : Ok dB := dk_ok zs_len (Hd.blk_len (Hd.may_note (hA_may (nte_len 1)))) zs_len
variable {P D : Nat} {vw vl vu : Value} {W : World}
theorem aw_new (w : World) : Calls Tryz.prog 33 #[I 8] w fun e w' => ∃ D V, e = .returned (.tuple #[ptr D, I 0]) ∧ DAt D dA (.slice none 0 0) V w' ∧ (∀ k, Of D (.slice none 0 0) V k → w.heap.size ≤ k) ∧ Below w.heap.size w w' := by
  refine (new_any 8 w ⟨by omega, by omega⟩).mono ?_
  rintro e w' (⟨q, _⟩ | ⟨_, D, V, h1, h2, h3, h4⟩)
  · exact absurd q (by decide)
  · exact ⟨D, V, h1, h2, h3, h4⟩
theorem aw_fmt (q : DAt D dA vw vl W) : Calls Tryz.prog 35 #[ptr D, S (nte 1)] W fun e w' => e = .returned (I 0) ∧ DTo D vw vl dB W w' := by
  have h := format_any q (dk_ok zs_len zs_len zs_len) ⟨by show (0 : Int) ≤ 0; omega, by show (0 : Int) ≤ 99999999999999999; omega⟩ (nte 1)
  rw [show fmt dA (nte 1) = (0, dB) from fmt_new (nte_len 1)] at h
  exact h
theorem aw_mnt (q : DAt D dB vw vl W) : Calls Tryz.prog 39 #[ptr D] W fun e w' => ∃ P vu, e = .returned (.tuple #[ptr P, I 0]) ∧ PD P D dB qA vw vl vu w' ∧ W.heap.size ≤ P ∧ (∀ k, vu.ownBlock = some k → W.heap.size ≤ k) ∧ Below W.heap.size W w' := by
  have e : hct dB = (hA (nte 1), true) := mnt_new (nte_len 1)
  have h := mount0_any q okB rfl (by rw [e]) (by rw [e]; rfl)
  rw [e] at h
  exact h
theorem aw_nxt (q : PD P D dB qA vw vl vu W) : Calls Tryz.prog 48 #[ptr P, I 2] W fun e w' => ∃ V, e = .returned (.tuple #[V, I 0]) ∧ InsOut [2, 3] W V w' ∧ PD P D dB qA vw vl vu w' ∧ Only (fun k => k = P) W w' := by
  have h := next_any q 2 (by omega)
  rw [show nxt dB qA 2 = ([2, 3], 0) from nxt_new _ _ _ _] at h
  exact h
theorem aw_com (q : PD P D dB qA vw vl vu W) (g : Nat) (hst : ∀ W', Only (POf P D vw vl vu) W W' → W'.heap[g]? = some (.cells #[I 1, I 2, I 0, .slice none 0 0, S [97]] 24 (0, 0))) : Calls Tryz.prog 51 #[ptr P, .slice (some ⟨g, 0, none⟩) 1 1, I 2, S (nte 2), .slice none 0 0] W fun e w' => e = .returned (I 0) ∧ PTo P D dC qB vw vl vu W w' := by
  have hn2 := nte_len 2
  have h := commit_any q (prA_ok (nte_len 1)) (some ⟨g, 0, none⟩) none 1 1 0 0 [pgA] 2 (nte 2) [] (fun W' o => ⟨pgs_one (hst W' o), Ins.nil _ _⟩) (fun x hx => by simp only [List.mem_cons, List.not_mem_nil, or_false] at hx; subst hx; exact ⟨by show 0 ≤ _; omega, by show 1 ≤ _; omega⟩) (fun x hx => by simp only [List.mem_cons, List.not_mem_nil, or_false] at hx; subst hx; exact fun z hz => nomatch hz) (fun z hz => nomatch hz) (by omega) (by omega) ⟨by show (0 : Int) ≤ 3; omega, by show (3 : Int) ≤ 99999999999999; omega⟩ (by omega) (by omega)
  rw [show cmr dB qA [pgA] 2 (nte 2) [] = (0, dC, qB) from cmr_new hn2] at h
  exact h
theorem aw_rd2 (q : PD P D dC qB vw vl vu W) : Calls Tryz.prog 53 #[ptr P, I 2] W fun e w' => ∃ q1 cap, e = .returned (.tuple #[.agg #[I 1, I 2, I 2, .slice q1 0 cap, S [97]], I 0]) ∧ PD P D dC qB vw vl vu w' ∧ Only (fun k => k = P) W w' := by
  have h := readP_any q 2 (by omega)
  rw [show rdp dC qB 2 = (pgA.born 2, 0) from rdp_two] at h
  refine h.mono ?_
  rintro e w' ⟨⟨q1, cap, h1, _, _, h2⟩, h3⟩
  exact ⟨q1, cap, h1, h3, h2⟩
theorem aw_rd3 (q : PD P D dC qB vw vl vu W) : Calls Tryz.prog 53 #[ptr P, I 3] W fun e w' => ∃ q1 cap, e = .returned (.tuple #[.agg #[I 0, I 0, I 0, .slice q1 0 cap, S []], I 93]) ∧ PD P D dC qB vw vl vu w' ∧ Only (fun k => k = P) W w' := by
  have h := readP_any q 3 (by omega)
  rw [show rdp dC qB 3 = (noPg, 93) from rdp_three] at h
  refine h.mono ?_
  rintro e w' ⟨⟨q1, cap, h1, _, _, h2⟩, h3⟩
  exact ⟨q1, cap, h1, h3, h2⟩
theorem aw_root (q : PD P D dC qB vw vl vu W) : Calls Tryz.prog 54 #[ptr P] W fun e w' => e = .returned (I 2) ∧ w' = W := root_any q
theorem aw_free (q : PD P D dC qB vw vl vu W) : Calls Tryz.prog 49 #[ptr P] W fun e w' => e = .returned (I 5) ∧ w' = W := by
  have h := free_any q
  rw [show (sel qB.use frb).length = 5 from rfl] at h
  exact h
theorem aw_gen (q : PD P D dC qB vw vl vu W) : Calls Tryz.prog 40 #[ptr P] W fun e w' => e = .returned (I 2) ∧ w' = W := generation_any q
theorem aw_note (q : PD P D dC qB vw vl vu W) : Calls Tryz.prog 55 #[ptr P] W fun e w' => e = .returned (S (nte 2)) ∧ Below W.heap.size W w' :=
  note_any q (by show (nte 2).length ≤ 1000; rw [nte_len]; omega)
end Go.Proofs.YtjopnhhdemfniaaGreatDoor
namespace Go.Proofs.YtjopnhhdemfniaaGreatDoor
open Go.RowKit
set_option maxHeartbeats 8000000
set_option maxRecDepth 8000
theorem awake_any (w : World) : Calls Tryz.prog 11 #[] w fun e w' => e = .returned (.bool true) ∧ Below w.heap.size w w' := by
  have K0 := hide (aw_new w)
  have K1 := hide (fun W => note9_any 1 W)
  have K2 := hide (fun W => note9_any 2 W)
  have K3 := hide (fun W D vw vl (q : DAt D dA vw vl W) => aw_fmt q)
  have K6 := hide (fun W P D vw vl vu g (q : PD P D dB qA vw vl vu W) (hst : ∀ W', Only (POf P D vw vl vu) W W' → W'.heap[g]? = some (.cells #[I 1, I 2, I 0, .slice none 0 0, S [97]] 24 (0, 0))) => aw_com q g hst)
  have K12 := hide (fun W P D vw vl vu (q : PD P D dC qB vw vl vu W) => aw_note q)
  generalize nte 1 = n1 at *
  generalize nte 2 = n2 at *
  go_enter Tryz.func11, Tryz.ntmps11
  go_wp2_with fail
  refine (unhide K0).mono ?_
  rintro e w1 ⟨D, VL, rfl, d1, o1, b1⟩
  have HD1 := hide d1
  have HO1 := hide o1
  have HB1 := hide b1
  clear d1 o1 b1 K0
  go_wp2_with fail
  refine (unhide K1 _).mono ?_
  rintro e w2 ⟨rfl, b2⟩
  have HD2 := hide ((unhide HD1).below b2)
  have HB2 := hide ((unhide HB1).trans (b2.mono (unhide HB1).size))
  clear b2 K1
  go_wp2_with fail
  refine (unhide K3 _ D (.slice none 0 0) VL (unhide HD2)).mono ?_
  rintro e w3 ⟨rfl, vw3, d3, o3, n3⟩
  have hO3 : ∀ k, Of D vw3 VL k → w.heap.size ≤ k := fun k hk => by
    rcases hk with q | q | q
    · exact unhide HO1 k (.inl q)
    · rcases n3 k q with r | r
      · cases r
      · exact Nat.le_trans (unhide HB2).size r
    · exact unhide HO1 k (.inr (.inr q))
  have HO3 := hide hO3
  have HD3 := hide d3
  have HB3 := hide (o3.below (unhide HB2) (unhide HB2).size (fun k hk => unhide HO1 k hk))
  clear d3 o3 n3 hO3 K3 HD1 HD2 HB1 HB2 HO1
  have K4 := hide (aw_mnt (unhide HD3))
  go_wp2_with fail
  refine (unhide K4).mono ?_
  rintro e w4 ⟨P, vu, rfl, p4, hP4, hu4, b4⟩
  have hO4 : ∀ k, POf P D vw3 VL vu k → w.heap.size ≤ k := fun k hk => by
    have := (unhide HB3).size
    rcases hk with q | q | q
    · omega
    · have := hu4 k q; omega
    · exact unhide HO3 k q
  have HO4 := hide hO4
  have HP4 := hide p4
  have HB4 := hide ((unhide HB3).trans (b4.mono (unhide HB3).size))
  clear p4 hP4 hu4 b4 hO4 K4 HD3 HB3 HO3
  have K5 := hide (aw_nxt (unhide HP4))
  go_wp2_with fail
  refine (unhide K5).mono ?_
  rintro e w5 ⟨V5, rfl, ⟨r5, n5⟩, p5, o5⟩
  obtain ⟨q5, c5, hV5, i5, z5⟩ := Ins.of r5
  have hV5' : V5 = .slice q5 2 c5 := hV5
  subst hV5'
  have HB5 := hide (o5.below (unhide HB4) (unhide HB4).size (fun k hk => unhide HO4 k (.inl hk)))
  have HN5 := hide (fun g o (e : q5 = some ⟨g, o, none⟩) => n5 g (z5 g o e))
  have HP5 := hide p5
  have HI5 := hide i5
  have HS4 := hide ((unhide HP4).old)
  clear r5 n5 p5 o5 i5 z5 hV5 K5
  have hg5 := heap_alloc_new w5 (.cells #[I 1, I 2, I 0, .slice none 0 0, .string ⟨#[97]⟩] 24)
  have bA5 := (Below.refl w5.heap.size w5).alloc (Nat.le_refl _) (.cells #[I 1, I 2, I 0, .slice none 0 0, .string ⟨#[97]⟩] 24)
  have HG5 := hide hg5
  have HA5 := hide bA5
  clear hg5 bA5
  go_wp2_with fail
  refine (unhide K2 _).mono ?_
  rintro e w6 ⟨rfl, b6⟩
  have bA6 : Below w5.heap.size w5 w6 := (unhide HA5).trans (b6.mono (unhide HA5).size)
  have hg6 : w6.heap[w5.heap.size]? = some (.cells #[I 1, I 2, I 0, .slice none 0 0, S [97]] 24 (0, 0)) := (b6.block _ (lt_of_row (unhide HG5))).trans (unhide HG5)
  have hP6 := (unhide HP5).below bA6
  have hI6 := (unhide HI5).below bA6
  have hB6 : Below w.heap.size w w6 := (unhide HB5).trans (bA6.mono (unhide HB5).size)
  have K6' := hide (unhide K6 w6 P D vw3 VL vu w5.heap.size hP6 (fun W' o => (o.block _ (lt_of_row hg6) (fun q => by have := (unhide HP5).old _ q; omega)).trans hg6))
  have HI6 := hide hI6
  have HB6 := hide hB6
  clear b6 bA6 hg6 hP6 hI6 hB6 K6 HI5 HB5 HP5 HG5 HA5
  go_wp2_with fail
  refine (unhide K6').mono ?_
  rintro e w7 ⟨rfl, vw7, vu7, p7, o7, n7, m7⟩
  have hB7 : Below w.heap.size w w7 := o7.below (unhide HB6) (unhide HB6).size (fun k hk => unhide HO4 k hk)
  have hO7 : ∀ k, POf P D vw7 VL vu7 k → w.heap.size ≤ k := fun k hk => by
    have hz := (unhide HB6).size
    rcases hk with q | q | q | q | q
    · exact unhide HO4 k (.inl q)
    · rcases m7 k q with r | r
      · exact unhide HO4 k (.inr (.inl r))
      · omega
    · exact unhide HO4 k (.inr (.inr (.inl q)))
    · rcases n7 k q with r | r
      · exact unhide HO4 k (.inr (.inr (.inr (.inl r))))
      · omega
    · exact unhide HO4 k (.inr (.inr (.inr (.inr q))))
  have hI7 : Ins w7 q5 2 [2, 3] := (unhide HI6).only o7 (fun g o e q => by have h1 := unhide HN5 g o e; have h2 := unhide HS4 g q; omega)
  have hP7n : ∀ g o, q5 = some ⟨g, o, none⟩ → g ≠ P := fun g o e q => by have h1 := unhide HN5 g o e; have h2 := (unhide HP4).lt; omega
  have HP7n := hide hP7n
  have HB7 := hide hB7
  have HO7 := hide hO7
  have HI7 := hide hI7
  have HP7 := hide p7
  clear p7 o7 n7 m7 hB7 hO7 hI7 hP7n K6' HI6 HB6 HO4 HB4 HP4 HN5 HS4
  have K7 := hide (aw_rd2 (unhide HP7))
  go_wp2_with fail
  refine (unhide K7).mono ?_
  rintro e w8 ⟨q8, c8, rfl, p8, o8⟩
  have hg8 := heap_alloc_new w8 (.cells #[I 0, I 0, I 0, .slice none 0 0, .string ⟨#[]⟩] 24)
  have hr8 := setRow_row (vs := #[I 1, I 2, I 2, .slice q8 0 c8, S [97]]) hg8
  have bA8 : Below w8.heap.size w8 ((w8.alloc (.cells #[I 0, I 0, I 0, .slice none 0 0, .string ⟨#[]⟩] 24)).setRow w8.heap.size #[I 1, I 2, I 2, .slice q8 0 c8, S [97]]) := belowR ((Below.refl w8.heap.size w8).alloc (Nat.le_refl _) _) (Nat.le_refl _) _
  have hB8 : Below w.heap.size w w8 := o8.below (unhide HB7) (unhide HB7).size (fun k hk => unhide HO7 k (.inl hk))
  have hI8 := ((unhide HI7).only o8 (unhide HP7n)).below bA8
  have HG8 := hide hg8
  have HR8 := hide hr8
  have HB8 := hide (hB8.trans (bA8.mono hB8.size))
  have HP8 := hide (p8.below bA8)
  have HI8 := hide hI8
  clear hg8 hr8 bA8 hB8 hI8 p8 o8 K7 HP7 HI7 HB7
  go_wp2_with (refine wp_st24 rfl (.tmp 8) (.tmp 52) rfl w8.heap.size (by rfl) 1 2 2 q8 0 c8 [97] (by rfl) _ rfl (unhide HG8) ?_; generalize (w8.alloc (.cells #[I 0, I 0, I 0, .slice none 0 0, .string ⟨#[]⟩] 24)).setRow w8.heap.size #[I 1, I 2, I 2, .slice q8 0 c8, S [97]] = w8b at *)
  have K8 := hide (aw_rd3 (unhide HP8))
  refine (unhide K8).mono ?_
  rintro e w9 ⟨q9, c9, rfl, p9, o9⟩
  have hg9 := heap_alloc_new w9 (.cells #[I 0, I 0, I 0, .slice none 0 0, .string ⟨#[]⟩] 24)
  have bA9 : Below w9.heap.size w9 ((w9.alloc (.cells #[I 0, I 0, I 0, .slice none 0 0, .string ⟨#[]⟩] 24)).setRow w9.heap.size #[I 0, I 0, I 0, .slice q9 0 c9, S []]) := belowR ((Below.refl w9.heap.size w9).alloc (Nat.le_refl _) _) (Nat.le_refl _) _
  have hB9 : Below w.heap.size w w9 := o9.below (unhide HB8) (unhide HB8).size (fun k hk => unhide HO7 k (.inl hk))
  have hI9 := ((unhide HI8).only o9 (unhide HP7n)).below bA9
  have hr9 : w9.heap[w8.heap.size]? = some (.cells #[I 1, I 2, I 2, .slice q8 0 c8, S [97]] 24 (0, 0)) := (o9.block _ (lt_of_row (unhide HR8)) (ne_type (unhide HR8) (unhide HP8).blk (by decide))).trans (unhide HR8)
  have HG9 := hide hg9
  have HB9 := hide (hB9.trans (bA9.mono hB9.size))
  have HP9 := hide (p9.below bA9)
  have HI9 := hide hI9
  have HR9 := hide ((bA9.block _ (lt_of_row hr9)).trans hr9)
  clear hg9 bA9 hB9 hI9 hr9 p9 o9 K8 HP8 HI8 HB8 HR8 HG8 HO7 HP7n
  go_wp2_with (refine wp_st24 rfl (.tmp 10) (.tmp 57) rfl w9.heap.size (by rfl) 0 0 0 q9 0 c9 [] (by rfl) _ rfl (unhide HG9) ?_; generalize (w9.alloc (.cells #[I 0, I 0, I 0, .slice none 0 0, .string ⟨#[]⟩] 24)).setRow w9.heap.size #[I 0, I 0, I 0, .slice q9 0 c9, S []] = w9b at *; obtain ⟨pp, oo, e5, hc5⟩ := (unhide HI9).2 (by omega); have c50 : w9b.cell? ⟨pp, oo, none⟩ = some (I 2) := hc5 0 (by omega); have c51 : w9b.cell? ⟨pp, oo + 1, none⟩ = some (I 3) := hc5 1 (by omega); have c82 : w9b.cell? ⟨w8.heap.size, 2, none⟩ = some (I 2) := cell_of_row _ _ 2 _ 24 (0, 0) (unhide HR9); have c84 : w9b.cell? ⟨w8.heap.size, 4, none⟩ = some (S [97]) := cell_of_row _ _ 4 _ 24 (0, 0) (unhide HR9); subst e5; clear hc5)
  refine (aw_root (unhide HP9)).mono ?_
  rintro e wa ⟨rfl, hwa⟩
  rw [hwa]
  clear hwa wa c50 c51 c82 c84
  go_wp2_with fail
  refine (aw_free (unhide HP9)).mono ?_
  rintro e wa ⟨rfl, hwa⟩
  rw [hwa]
  clear hwa wa
  go_wp2_with fail
  refine (aw_gen (unhide HP9)).mono ?_
  rintro e wa ⟨rfl, hwa⟩
  rw [hwa]
  clear hwa wa
  go_wp2_with fail
  refine (unhide K12 w9b P D vw7 VL vu7 (unhide HP9)).mono ?_
  rintro e wa ⟨rfl, ba⟩
  have HBA := hide ((unhide HB9).trans (ba.mono (unhide HB9).size))
  clear ba
  go_wp2_with fail
  refine (unhide K2 _).mono ?_
  rintro e wb ⟨rfl, bb⟩
  have HBB := hide ((unhide HBA).trans (bb.mono (unhide HBA).size))
  clear bb
  go_wp2
  go_ret
  exact ⟨by simp, unhide HBB⟩
end Go.Proofs.YtjopnhhdemfniaaGreatDoor
