import Derived.Test.YtjopnhhdemfniaaGreatDoorPir
import Derived.Test.YtjopnhhdemfniaaGreatDoorZpic
import Derived.Test.YtjopnhhdemfniaaGreatDoorZphe
import Derived.Test.YtjopnhhdemfniaaGreatDoorPjd
/- The disk and the pager of the law's first calls, of lists alone. -/
namespace Go.Proofs.YtjopnhhdemfniaaGreatDoor
/-- A disk that lives, with no fuse. -/
def Lv (ws : List Wr) (last : List Bs) (k : Int) : Ds := ⟨ws, last, 0, false, k⟩
theorem lv_reach (ws : List Wr) (last : List Bs) (k : Int) {b : Int} (h0 : 0 ≤ b) (h1 : b < last.length) : reachv (Lv ws last k) b = 0 := by
  unfold reachv Lv
  simp only
  rw [if_neg (by simp), if_neg (by omega), if_neg (by omega)]
theorem lv_act (ws : List Wr) (last : List Bs) (k : Int) : actv (Lv ws last k) = 0 ∧ (Lv ws last k).act = Lv ws last (k + 1) := ⟨rfl, rfl⟩
theorem lv_write (ws : List Wr) (last : List Bs) (k : Int) {b : Int} (h0 : 0 ≤ b) (h1 : b < last.length) {s : Bs} (hs : s.length = 512) : writev (Lv ws last k) b s = 0 ∧ (Lv ws last k).write b s = Lv (putW ws b.toNat s) last (k + 1) := by
  have hr := lv_reach ws last k h0 h1
  obtain ⟨a1, a2⟩ := lv_act ws last k
  unfold writev Ds.write
  rw [if_neg (by simp [hs]), if_neg (by simp [hr]), if_neg (by simp [hs]), if_neg (by simp [hr]), if_neg (by simp [a1]), a2]
  exact ⟨a1, rfl⟩
theorem lv_sync (ws : List Wr) (last : List Bs) (k : Int) : syncv (Lv ws last k) = 0 ∧ (Lv ws last k).sync = Lv [] (snc last ws ws.length) (k + 1) := ⟨rfl, rfl⟩
theorem zs_len : zs.length = 512 := List.length_replicate
theorem phr_zs : phr zs = (noHd, 90) := by
  have hg : (ghd zs).may = false := by
    have : (ghd zs).gen = 0 := by
      show ((nat (((List.replicate 512 0).drop 4).take 8) : Nat) : Int) = 0
      rw [List.drop_replicate, List.take_replicate]
      rfl
    unfold Hd.may isGn
    rw [this]
    rfl
  unfold phr phd
  rw [if_neg (by rw [hg]; simp)]
/-- Eight blocks. -/
def Bl (a b c : Bs) : List Bs := [a, b, c, zs, zs, zs, zs, zs]
def Dk (a b c : Bs) (k : Int) : Ds := Lv [] (Bl a b c) k
theorem hon_zs (b c : Bs) (k : Int) : hon (Dk zs b c k) 0 = (noHd, false) := by
  have hr : reachv (Dk zs b c k) ((0 : Nat) : Int) = 0 := lv_reach _ _ _ (by omega) (by show (0 : Int) < 8; omega)
  have hc : cur (Dk zs b c k) 0 = zs := rfl
  unfold hon hok
  rw [if_pos hr, hc, phr_zs]
  rfl
theorem hct_none (c : Bs) (k : Int) : (hct (Dk zs zs c k)).2 = false := by
  have h1 : hon (Dk zs zs c k) 1 = (noHd, false) := by
    have hr : reachv (Dk zs zs c k) ((1 : Nat) : Int) = 0 := lv_reach _ _ _ (by omega) (by show (1 : Int) < 8; omega)
    have hc : cur (Dk zs zs c k) 1 = zs := rfl
    unfold hon hok
    rw [if_pos hr, hc, phr_zs]
    rfl
  unfold hct
  simp only [lst, hon_zs, h1]
  rfl
theorem hct_one (h : Hd) (hm : h.may = true) (hb : h.blocks = 8) (hg : h.gen = 1) (c : Bs) (k : Int) : hct (Dk zs h.blk c k) = (h, true) := by
  have h1 : hon (Dk zs h.blk c k) 1 = (h, true) := by
    have hr : reachv (Dk zs h.blk c k) ((1 : Nat) : Int) = 0 := lv_reach _ _ _ (by omega) (by show (1 : Int) < 8; omega)
    have hc : cur (Dk zs h.blk c k) 1 = h.blk := rfl
    have hp : phr h.blk = (h, 0) := by unfold phr; rw [phd_blk hm]
    have hl : (Dk zs h.blk c k).last.length = 8 := rfl
    unfold hon hok
    rw [if_pos hr, hc, hp, hb, hg, hl]
    rfl
  have h0 := hon_zs h.blk c k
  have l1 : lst (Dk zs h.blk c k) 1 = noHd := by
    show (if (hon (Dk zs h.blk c k) 0).2 = true ∧ _ then _ else noHd) = noHd
    rw [h0, if_neg (by simp)]
  have l2 : lst (Dk zs h.blk c k) 2 = h := by
    show (if (hon (Dk zs h.blk c k) 1).2 = true ∧ (lst (Dk zs h.blk c k) 1).gen < (hon (Dk zs h.blk c k) 1).1.gen then (hon (Dk zs h.blk c k) 1).1 else lst (Dk zs h.blk c k) 1) = h
    rw [h1, l1]
    exact if_pos ⟨rfl, by rw [hg]; decide⟩
  unfold hct
  rw [l2, hg]
  rfl
def hA (n : Bs) : Hd := ⟨1, 0, 8, n⟩
def hB (n : Bs) : Hd := ⟨2, 2, 8, n⟩
theorem hA_may {n : Bs} (h : n.length = 16) : (hA n).may = true := by
  unfold hA Hd.may
  simp only
  rw [h]
  rfl
theorem hB_may {n : Bs} (h : n.length = 16) : (hB n).may = true := by
  unfold hB Hd.may
  simp only
  rw [h]
  rfl
theorem fmt_new {n : Bs} (hn : n.length = 16) : fmt (Dk zs zs zs 0) n = (0, Dk zs (hA n).blk zs 3) := by
  have hw := lv_write [] (Bl zs zs zs) 0 (b := 0) (by omega) (by show (0 : Int) < 8; omega) zs_len
  have e1 : fst1 (Dk zs zs zs 0) n = hA n := rfl
  have hl := Hd.blk_len (Hd.may_note (hA_may hn))
  generalize hBK : (hA n).blk = BK at *
  have hw2 := lv_write [(0, zs)] (Bl zs zs zs) 1 (b := 1) (by omega) (by show (1 : Int) < 8; omega) hl
  have hs := lv_sync [(0, zs), (1, BK)] (Bl zs zs zs) 2
  have hwd : (Dk zs zs zs 0).write 0 zs = Lv [(0, zs)] (Bl zs zs zs) 1 := hw.2
  have hw1 : writev (Dk zs zs zs 0) 0 zs = 0 := hw.1
  have hg : (hA n).gen % 2 = 1 := rfl
  have hp : putW [(0, zs)] (1 : Int).toNat BK = [(0, zs), (1, BK)] := rfl
  unfold fmt
  rw [if_neg (by simp [hn]), if_neg (show ¬ (Dk zs zs zs 0).dead = true from Bool.false_ne_true), if_neg (by rw [hct_none]; simp), if_neg (by simp [hw1]), e1, hwd]
  unfold wrhv wrhd
  rw [hg, hBK, if_neg (by simp [hw2.1]), if_neg (by simp [hw2.1]), hw2.2, hp]
  exact Prod.ext hs.1 hs.2
theorem mnt_new {n : Bs} (hn : n.length = 16) : hct (Dk zs (hA n).blk zs 3) = (hA n, true) := hct_one (hA n) (hA_may hn) rfl rfl zs 3
/-- The page that is committed. -/
def pgA : Pg := ⟨1, 2, 0, [], [97]⟩
def prA (n : Bs) : Pr := ⟨hA n, List.replicate 8 0, 0, false⟩
def prB (n : Bs) : Pr := ⟨hB n, [0, 0, 1, 0, 0, 0, 0, 0], 0, false⟩
theorem clo_new : clo (after (List.replicate 8 0) [2] []) [pgA] 2 = true := by decide
theorem after_new : after (List.replicate 8 0) [2] [] = [0, 0, 1, 0, 0, 0, 0, 0] := by decide
theorem has_two : hasv [0, 0, 1, 0, 0, 0, 0, 0] 2 255 = true := by decide
theorem has_three : hasv [0, 0, 1, 0, 0, 0, 0, 0] 3 255 = false := by decide
theorem pgA_may : (pgA.born 2).may = true := rfl
theorem prA_ok {n b c : Bs} {k : Int} (hn : n.length = 16) : Prok (Dk zs b c k) (prA n) := ⟨hA_may hn, rfl, rfl, (show (List.replicate 8 (0 : UInt8)).getD 0 0 &&& 1 = 0 by decide), (show (List.replicate 8 (0 : UInt8)).getD 1 0 &&& 1 = 0 by decide)⟩
theorem nxt_new (n b c : Bs) (k : Int) : nxt (Dk zs b c k) (prA n) 2 = ([2, 3], 0) := rfl
theorem trv_new {n b : Bs} {k : Int} (hn : n.length = 16) : trv (Dk zs b zs k) [pgA] (hB n) = 0 ∧ trd (Dk zs b zs k) [pgA] (hB n) = Dk (hB n).blk b (pgA.born 2).blk (k + 1 + 1 + 1 + 1) := by
  have hl := Hd.blk_len (Hd.may_note (hB_may hn))
  have hpl := Pg.blk_len pgA_may
  generalize hBK : (hB n).blk = BK at *
  generalize hPK : (pgA.born 2).blk = PK at *
  have w1 := lv_write [] (Bl zs b zs) k (b := 2) (by omega) (by show (2 : Int) < 8; omega) hpl
  have s1 := lv_sync [(2, PK)] (Bl zs b zs) (k + 1)
  have w2 := lv_write [] (Bl zs b PK) (k + 1 + 1) (b := 0) (by omega) (by show (0 : Int) < 8; omega) hl
  have s2 := lv_sync [(0, BK)] (Bl zs b PK) (k + 1 + 1 + 1)
  have p1 : putW [] (2 : Int).toNat PK = [(2, PK)] := rfl
  have p2 : putW [] (0 : Int).toNat BK = [(0, BK)] := rfl
  rw [p1] at w1
  rw [p2] at w2
  have e1 : wps 2 (Dk zs b zs k) [pgA] = (0, Lv [] (Bl zs b PK) (k + 1 + 1)) := by
    unfold wps
    rw [show pgA.number = 2 from rfl, hPK, if_neg (by rw [show writev (Dk zs b zs k) 2 PK = 0 from w1.1]; simp), show (Dk zs b zs k).write 2 PK = Lv [(2, PK)] (Bl zs b zs) (k + 1) from w1.2]
    unfold wps
    exact Prod.ext s1.1 s1.2
  have hg : (hB n).gen = 2 := rfl
  have hg2 : (2 : Int) % 2 = 0 := rfl
  unfold trv trd
  rw [hg, e1, if_neg (by simp), if_neg (by simp)]
  unfold wrhv wrhd
  simp only
  rw [hg, hg2, hBK, if_neg (by simp [w2.1]), if_neg (by simp [w2.1]), w2.2]
  exact ⟨s2.1, s2.2⟩
theorem cmr_new {n m b : Bs} {k : Int} (hm : m.length = 16) : cmr (Dk zs b zs k) (prA n) [pgA] 2 m [] = (0, Dk (hB m).blk b (pgA.born 2).blk (k + 1 + 1 + 1 + 1), prB m) := by
  obtain ⟨t1, t2⟩ := trv_new (n := m) (b := b) (k := k) hm
  have hask : (prA n).ask (Dk zs b zs k) = prA n := rfl
  have hnx : nxh (prA n) 2 m = hB m := rfl
  unfold cmr
  rw [if_neg (by simp [hm]), if_neg (by rw [show ([pgA].all Pg.fresh && rsg ([pgA].map Pg.number) && rsg []) = true from rfl]; simp), if_neg (by rw [show askv (Dk zs b zs k) (prA n) = 0 from rfl]; simp), hask, hnx, t1, t2]
  rw [if_neg (by rw [show (decide (List.map Pg.number [pgA] = List.take [pgA].length (sel (prA n).use frb)) && [].all fun x => hasv (prA n).use x 1) = true from rfl]; simp), if_neg (by rw [show clo (after (prA n).use (List.map Pg.number [pgA]) []) [pgA] 2 = true from clo_new]; simp), if_neg (show ¬ (prA n).h.gen = 4611686018427387904 from (show ¬ (1 : Int) = 4611686018427387904 by decide)), if_pos rfl]
  rw [show after (prA n).use (List.map Pg.number [pgA]) [] = [0, 0, 1, 0, 0, 0, 0, 0] from after_new]
  rfl
theorem read_two (c b PK : Bs) (k : Int) : readS (Dk c b PK k) 2 = PK := by
  have q : reachv (Dk c b PK k) 2 = 0 := lv_reach [] (Bl c b PK) k (by omega) (by show (2 : Int) < 8; omega)
  unfold readS
  rw [if_pos q]
  rfl
theorem rdp_gen {m b c PK : Bs} {k : Int} (x : Pg) (hk : prs PK = some x) : rdp (Dk c b PK k) (prB m) 2 = (x, 0) := by
  unfold rdp
  rw [if_neg (by rw [show askv (Dk c b PK k) (prB m) = 0 from rfl]; simp), if_neg (by rw [show hasv (prB m).use 2 255 = true from has_two]; simp), read_two]
  unfold prp
  rw [hk]
theorem rdp_two {m b c : Bs} {k : Int} : rdp (Dk c b (pgA.born 2).blk k) (prB m) 2 = (pgA.born 2, 0) := rdp_gen (pgA.born 2) (prs_blk pgA_may)
theorem rdp_three {m b c e : Bs} {k : Int} : rdp (Dk c b e k) (prB m) 3 = (noPg, 93) := by
  unfold rdp
  rw [if_neg (by rw [show askv (Dk c b e k) (prB m) = 0 from rfl]; simp), if_pos (show hasv (prB m).use 3 255 = false from has_three)]
end Go.Proofs.YtjopnhhdemfniaaGreatDoor
