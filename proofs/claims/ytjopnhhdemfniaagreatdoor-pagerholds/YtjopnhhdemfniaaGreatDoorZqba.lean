import Derived.Test.YtjopnhhdemfniaaGreatDoorZqab
import Derived.Test.YtjopnhhdemfniaaGreatDoorZpis
import Derived.Test.YtjopnhhdemfniaaGreatDoorZpic
/- Pure: what a pager keeps, by the law's own book of pages and pins. -/
namespace Go.Proofs.YtjopnhhdemfniaaGreatDoor
def uv (b0 b1 b2 b3 b4 : Bool) : UInt8 := (if b0 then 1 else 0) ||| (if b1 then 2 else 0) ||| (if b2 then 4 else 0) ||| (if b3 then 8 else 0) ||| (if b4 then 16 else 0)
theorem uv_or1 (b0 b1 b2 b3 b4 : Bool) : uv b0 b1 b2 b3 b4 ||| 1 = uv true b1 b2 b3 b4 := by cases b0 <;> cases b1 <;> cases b2 <;> cases b3 <;> cases b4 <;> rfl
theorem uv_and254 (b0 b1 b2 b3 b4 : Bool) : uv b0 b1 b2 b3 b4 &&& 254 = uv false b1 b2 b3 b4 := by cases b0 <;> cases b1 <;> cases b2 <;> cases b3 <;> cases b4 <;> rfl
theorem uv_frb (b0 b1 b2 b3 b4 : Bool) : (uv b0 b1 b2 b3 b4 == 0) = !(b0 || b1 || b2 || b3 || b4) := by cases b0 <;> cases b1 <;> cases b2 <;> cases b3 <;> cases b4 <;> rfl
theorem uv_rcb (b0 b1 b2 b3 b4 : Bool) : (uv b0 b1 b2 b3 b4 &&& 1 != 0) = b0 := by cases b0 <;> cases b1 <;> cases b2 <;> cases b3 <;> cases b4 <;> rfl
theorem uv_255 (b0 b1 b2 b3 b4 : Bool) : (uv b0 b1 b2 b3 b4 &&& 255 != 0) = (b0 || b1 || b2 || b3 || b4) := by cases b0 <;> cases b1 <;> cases b2 <;> cases b3 <;> cases b4 <;> rfl
def b5 (k : Nat) (v : Bool) (b : Nat → Bool) : Nat → Bool := fun j => if j = k then v else b j
def uw (b0 : Bool) (b : Nat → Bool) : UInt8 := uv b0 (b 1) (b 2) (b 3) (b 4)
theorem uw_or (b0 : Bool) (b : Nat → Bool) (k : Nat) (h1 : 1 ≤ k) (h4 : k ≤ 4) : uw b0 b ||| pnb k = uw b0 (b5 k true b) := by
  rcases (by omega : k = 1 ∨ k = 2 ∨ k = 3 ∨ k = 4) with rfl | rfl | rfl | rfl <;> (unfold uw b5; simp only [if_true, if_false, Nat.reduceEqDiff]; generalize b 1 = x1; generalize b 2 = x2; generalize b 3 = x3; generalize b 4 = x4; cases b0 <;> cases x1 <;> cases x2 <;> cases x3 <;> cases x4 <;> rfl)
theorem uw_and (b0 : Bool) (b : Nat → Bool) (k : Nat) (h1 : 1 ≤ k) (h4 : k ≤ 4) : uw b0 b &&& ~~~ pnb k = uw b0 (b5 k false b) := by
  rcases (by omega : k = 1 ∨ k = 2 ∨ k = 3 ∨ k = 4) with rfl | rfl | rfl | rfl <;> (unfold uw b5; simp only [if_true, if_false, Nat.reduceEqDiff]; generalize b 1 = x1; generalize b 2 = x2; generalize b 3 = x3; generalize b 4 = x4; cases b0 <;> cases x1 <;> cases x2 <;> cases x3 <;> cases x4 <;> rfl)
theorem uw_bit (b0 : Bool) (b : Nat → Bool) (k : Nat) (h1 : 1 ≤ k) (h4 : k ≤ 4) : (uw b0 b &&& pnb k != 0) = b k := by
  rcases (by omega : k = 1 ∨ k = 2 ∨ k = 3 ∨ k = 4) with rfl | rfl | rfl | rfl <;> (unfold uw; generalize b 1 = x1; generalize b 2 = x2; generalize b 3 = x3; generalize b 4 = x4; cases b0 <;> cases x1 <;> cases x2 <;> cases x3 <;> cases x4 <;> rfl)
theorem fnd_append (a b : List Wr) (m : Nat) : fnd (a ++ b) m = match fnd a m with | some s => some s | none => fnd b m := by
  induction a with
  | nil => rfl
  | cons x a ih =>
    rw [List.cons_append, fnd_cons, fnd_cons]
    split
    · rfl
    · exact ih
theorem snc_at (last : List Bs) (ws : List Wr) (hs : Srt ws) (k m : Nat) (hk : k ≤ ws.length) (hl : ∀ x ∈ ws, x.1 < last.length) : (snc last ws k).getD m [] = (fnd (ws.take k) m).getD (last.getD m []) := by
  induction k with
  | zero => simp [snc, fnd]
  | succ k ih =>
    have hk' : k < ws.length := by omega
    have ex : ws.getD k (0, []) = ws[k] := by simp [hk']
    have hlt := hl _ (mem_getD (z := (0, [])) hk')
    rw [List.take_succ_eq_append_getElem hk', fnd_append]
    unfold snc
    by_cases q : m = (ws.getD k (0, [])).1
    · have n1 : fnd (ws.take k) m = none := by
        cases r : fnd (ws.take k) m with
        | none => rfl
        | some s =>
          have hm := fnd_mem r
          obtain ⟨j, hj, e⟩ := List.getElem_of_mem hm
          have hj2 : j < k := by simp at hj; omega
          have := hs j k hj2 hk'
          rw [List.getElem_take] at e
          have ej : ws.getD j (0, []) = (m, s) := by rw [← e]; simp [show j < ws.length by omega]
          rw [ej] at this
          simp only at this
          omega
      rw [n1]
      simp only
      rw [q, List.getD_eq_getElem?_getD, List.getElem?_set_self (by rw [snc_len]; exact hlt)]
      rw [ex]
      simp [fnd]
    · rw [List.getD_eq_getElem?_getD, List.getElem?_set_ne (fun r => q r.symm), ← List.getD_eq_getElem?_getD, ih (by omega)]
      cases r : fnd (ws.take k) m with
      | some s => rfl
      | none =>
        have : ¬ ws[k].1 = m := by rw [← ex]; exact fun e => q e.symm
        simp [fnd, this]

/-- What a disk that lives has at a place, written or lasting. -/
theorem lv_cur_sync (ws : List Wr) (last : List Bs) (hs : Srt ws) (hl : ∀ x ∈ ws, x.1 < last.length) (n : Nat) : (snc last ws ws.length).getD n [] = (fnd ws n).getD (last.getD n []) := by
  have := snc_at last ws hs ws.length n (Nat.le_refl _) hl
  rwa [List.take_length] at this
def mem (ps : List Pg) (n : Nat) : Bool := ps.any fun x => decide (x.number = (n : Int))
theorem mem_iff {ps : List Pg} {n : Nat} : mem ps n = true ↔ ∃ x ∈ ps, x.number = (n : Int) := by simp [mem]
def pbn (l : List Pn) (n k : Nat) : Bool := l.any fun x => decide (x.1 = (k : Int)) && mem x.2 n
def pst (l : List Pn) (k : Nat) : Bool := l.any fun x => decide (x.1 = (k : Int))
def pan (l : List Pn) (n : Nat) : Bool := pbn l n 1 || pbn l n 2 || pbn l n 3 || pbn l n 4
def usd (ps : List Pg) (l : List Pn) (n : Nat) : Bool := mem ps n || pbn l n 1 || pbn l n 2 || pbn l n 3 || pbn l n 4
theorem usd_eq (ps : List Pg) (l : List Pn) (n : Nat) : usd ps l n = (mem ps n || pan l n) := by simp [usd, pan, Bool.or_assoc]
def fre (m : Nat) (ps : List Pg) (l : List Pn) : List Int := ((List.range m).filter fun n => decide (2 ≤ n) && !usd ps l n).map fun n : Nat => (n : Int)
/-- The pager and its disk, as the law's book has them. -/
structure Hds (m : Nat) (gen root : Int) (ps : List Pg) (l : List Pn) (last : List Bs) (p : Pr) : Prop where
  dl : last.length = m
  d5 : ∀ x ∈ last, x.length = 512
  ul : p.use.length = m
  m8 : 8 ≤ m ∧ m ≤ 4096
  db : p.doubt = false
  hg : p.h.gen = gen
  hr : p.h.root = root
  hb : p.h.blocks = (m : Int)
  hm : p.h.may = true
  gn : 1 ≤ gen
  use : ∀ n, n < m → p.use.getD n 0 = uw (mem ps n) (pbn l n)
  pins : p.pins = uw false (pst l)
  pl : l.Pairwise (fun x y => x.1 < y.1)
  pk : ∀ x ∈ l, 1 ≤ x.1 ∧ x.1 ≤ 4
  pg : ∀ x, (x ∈ ps ∨ ∃ y ∈ l, x ∈ y.2) → x.may = true ∧ 2 ≤ x.number ∧ x.number < m ∧ last.getD x.number.toNat [] = x.blk
  srt : ps.Pairwise (fun x y => x.number < y.number)
  rt : root = 0 ∨ ∃ x ∈ ps, x.number = root
section
variable {m : Nat} {gen root : Int} {ps : List Pg} {l : List Pn} {last : List Bs} {p : Pr}
theorem Hds.ask0 (h : Hds m gen root ps l last p) (a : Int) : askv (Lv [] last a) p = 0 := by unfold askv Lv; simp [h.db]
theorem Hds.ask (h : Hds m gen root ps l last p) (a : Int) : p.ask (Lv [] last a) = p := by
  have := h.db
  cases p
  simp_all [Pr.ask, Lv]
theorem pbn_mem {n k : Nat} : pbn l n k = true ↔ ∃ x ∈ l, x.1 = (k : Int) ∧ mem x.2 n = true := by simp [pbn]
theorem Hds.low (h : Hds m gen root ps l last p) {n : Nat} (hn : n < 2) : usd ps l n = false := by
  rw [Bool.eq_false_iff]
  intro q
  simp only [usd, Bool.or_eq_true] at q
  have key : ∀ k, pbn l n k = true → False := fun k r => by
    obtain ⟨y, hy, _, hm⟩ := pbn_mem.1 r
    obtain ⟨x, hx, e⟩ := mem_iff.1 hm
    have := (h.pg x (.inr ⟨y, hy, hx⟩)).2.1
    omega
  rcases q with (((q | q) | q) | q) | q
  · obtain ⟨x, hx, e⟩ := mem_iff.1 q
    have := (h.pg x (.inl hx)).2.1
    omega
  all_goals exact key _ q
theorem uw_255 (b0 : Bool) (b : Nat → Bool) : (uw b0 b &&& 255 != 0) = (b0 || b 1 || b 2 || b 3 || b 4) := uv_255 _ _ _ _ _
theorem uw_frb (b0 : Bool) (b : Nat → Bool) : frb (uw b0 b) = !(b0 || b 1 || b 2 || b 3 || b 4) := uv_frb _ _ _ _ _
theorem uw_rcb (b0 : Bool) (b : Nat → Bool) : rcb (uw b0 b) = b0 := uv_rcb _ _ _ _ _
theorem uw_hdb (b0 : Bool) (b : Nat → Bool) : hdb (uw b0 b) = (!b0 && (b 1 || b 2 || b 3 || b 4)) := by
  unfold hdb
  rw [uw_rcb, show (uw b0 b != 0) = !(uw b0 b == 0) from rfl, show (uw b0 b == 0) = frb (uw b0 b) from rfl, uw_frb]
  cases b0 <;> simp
theorem Hds.has (h : Hds m gen root ps l last p) {n : Nat} (hn : n < m) : hasv p.use (n : Int) 255 = usd ps l n := by
  unfold hasv
  rw [show ((n : Int)).toNat = n by omega, h.use n hn, uw_255, h.ul]
  simp [usd, hn]
theorem Hds.has1 (h : Hds m gen root ps l last p) {n : Nat} (hn : n < m) : hasv p.use (n : Int) 1 = mem ps n := by
  unfold hasv
  rw [show ((n : Int)).toNat = n by omega, h.use n hn, show (uw (mem ps n) (pbn l n) &&& 1 != 0) = rcb (uw (mem ps n) (pbn l n)) from rfl, uw_rcb, h.ul]
  simp [hn]
theorem usd_of (x : Pg) (n : Nat) (e : x.number = (n : Int)) (hk : ∀ y ∈ l, 1 ≤ y.1 ∧ y.1 ≤ 4) (hx : x ∈ ps ∨ ∃ y ∈ l, x ∈ y.2) : usd ps l n = true := by
  rcases hx with hx | ⟨y, hy, hx⟩
  · simp [usd, mem_iff.2 ⟨x, hx, e⟩]
  · have hm := mem_iff.2 ⟨x, hx, e⟩
    have hb := hk y hy
    have key : ∀ k : Nat, y.1 = (k : Int) → pbn l n k = true := fun k e => pbn_mem.2 ⟨y, hy, e, hm⟩
    rcases (by omega : y.1 = 1 ∨ y.1 = 2 ∨ y.1 = 3 ∨ y.1 = 4) with q | q | q | q
    · simp [usd, key 1 q]
    · simp [usd, key 2 q]
    · simp [usd, key 3 q]
    · simp [usd, key 4 q]
/-- A page that is kept is read. -/
theorem Hds.rd (h : Hds m gen root ps l last p) (a : Int) (x : Pg) (hx : x ∈ ps ∨ ∃ y ∈ l, x ∈ y.2) : rdp (Lv [] last a) p x.number = (x, 0) := by
  obtain ⟨m1, m2, m3, m4⟩ := h.pg x hx
  obtain ⟨n, hn⟩ : ∃ n : Nat, x.number = (n : Int) := ⟨x.number.toNat, by omega⟩
  unfold rdp
  rw [if_neg (by rw [h.ask0]; simp), if_neg (by rw [hn, h.has (by omega), usd_of x n hn h.pk hx]; simp)]
  have hr : reachv (Lv [] last a) x.number = 0 := lv_reach _ _ _ (by omega) (by rw [h.dl]; exact m3)
  have hc : cur (Lv [] last a) x.number.toNat = x.blk := m4
  unfold readS prp
  rw [if_pos hr, hc, prs_blk m1]
/-- A page that is free is none. -/
theorem Hds.rd0 (h : Hds m gen root ps l last p) (a : Int) {n : Nat} (hn : n < m) (hu : usd ps l n = false) : rdp (Lv [] last a) p (n : Int) = (noPg, 93) := by
  unfold rdp
  rw [if_neg (by rw [h.ask0]; simp), if_pos (by rw [h.has hn, hu])]
theorem Hds.free (h : Hds m gen root ps l last p) : sel p.use frb = fre m ps l := by
  unfold sel selk fre
  rw [h.ul]
  refine congrArg (List.map _) (List.filter_congr (fun n hn => ?_))
  rw [h.use n (List.mem_range.1 hn), uw_frb]
  rfl
theorem Hds.nxt (h : Hds m gen root ps l last p) (a : Int) (k : Nat) : nxt (Lv [] last a) p (k : Int) = if (fre m ps l).length < k then ([], 92) else ((fre m ps l).take k, 0) := by
  unfold Go.Proofs.YtjopnhhdemfniaaGreatDoor.nxt
  rw [if_neg (by omega), if_neg (by rw [h.ask0]; simp), h.free]
  by_cases q : (fre m ps l).length < k
  · rw [if_pos q, if_pos (by omega)]
  · rw [if_neg q, if_neg (by omega), show ((k : Int)).toNat = k by omega]
end
end Go.Proofs.YtjopnhhdemfniaaGreatDoor
namespace Go.Proofs.YtjopnhhdemfniaaGreatDoor
theorem mkb_get (v : Bool) : ∀ (ns : List Int) (b : List Bool) (i : Nat), i < b.length → (mkb ns v b).getD i false = if (ns.any fun z => decide (z.toNat = i)) = true then v else b.getD i false
  | [], _, _, _ => by simp [mkb]
  | z :: ns, b, i, hi => by
    have e : mkb (z :: ns) v b = mkb ns v (b.set z.toNat v) := rfl
    rw [e, mkb_get v ns _ i (by simpa using hi), List.any_cons]
    by_cases q : (ns.any fun z => decide (z.toNat = i)) = true
    · rw [if_pos q, if_pos (by rw [q]; simp)]
    · rw [if_neg q]
      by_cases r : z.toNat = i
      · rw [if_pos (by simp [r]), r]
        simp [hi]
      · rw [if_neg (by simp [r]; simpa using q)]
        simp only [List.getD_eq_getElem?_getD]
        rw [List.getElem?_set_ne r]
section
variable {m : Nat} {gen root : Int} {ps : List Pg} {l : List Pn} {last : List Bs} {p : Pr}
theorem any_mem (h : ∀ x ∈ ps, 2 ≤ x.number) (i : Nat) : ((ps.map Pg.number).any fun z => decide (z.toNat = i)) = mem ps i := by
  rw [Bool.eq_iff_iff, mem_iff]
  simp only [List.any_map, List.any_eq_true, Function.comp, decide_eq_true_eq]
  constructor
  · rintro ⟨x, hx, e⟩
    exact ⟨x, hx, by have := h x hx; omega⟩
  · rintro ⟨x, hx, e⟩
    exact ⟨x, hx, by omega⟩
theorem any_pan (hk : ∀ y ∈ l, 1 ≤ y.1 ∧ y.1 ≤ 4) (h : ∀ y ∈ l, ∀ x ∈ y.2, 2 ≤ x.number) (i : Nat) : ((pnn l l.length).any fun z => decide (z.toNat = i)) = pan l i := by
  unfold pnn
  rw [List.take_length, Bool.eq_iff_iff]
  simp only [List.any_flatMap, List.any_map, List.any_eq_true, Function.comp, decide_eq_true_eq, pan, Bool.or_eq_true, pbn_mem, mem_iff]
  constructor
  · rintro ⟨y, hy, x, hx, e⟩
    have e' : x.number = (i : Int) := by have := h y hy x hx; omega
    have hb := hk y hy
    rcases (by omega : y.1 = 1 ∨ y.1 = 2 ∨ y.1 = 3 ∨ y.1 = 4) with q | q | q | q
    · exact .inl (.inl (.inl ⟨y, hy, q, x, hx, e'⟩))
    · exact .inl (.inl (.inr ⟨y, hy, q, x, hx, e'⟩))
    · exact .inl (.inr ⟨y, hy, q, x, hx, e'⟩)
    · exact .inr ⟨y, hy, q, x, hx, e'⟩
  · rintro (((⟨y, hy, _, x, hx, e⟩ | ⟨y, hy, _, x, hx, e⟩) | ⟨y, hy, _, x, hx, e⟩) | ⟨y, hy, _, x, hx, e⟩) <;> exact ⟨y, hy, x, hx, by omega⟩
theorem Hds.ps2 (h : Hds m gen root ps l last p) : ∀ x ∈ ps, 2 ≤ x.number := fun x hx => (h.pg x (.inl hx)).2.1
theorem Hds.pn2 (h : Hds m gen root ps l last p) : ∀ y ∈ l, ∀ x ∈ y.2, 2 ≤ x.number := fun y hy x hx => (h.pg x (.inr ⟨y, hy, hx⟩)).2.1
theorem Hds.hdb0 (h : Hds m gen root ps l last p) (i : Nat) (hi : i < m) : (Go.Proofs.YtjopnhhdemfniaaGreatDoor.hdb0 l ps m).getD i false = (!mem ps i && pan l i) := by
  unfold Go.Proofs.YtjopnhhdemfniaaGreatDoor.hdb0
  rw [mkb_get _ _ _ _ (by rw [mkb_len]; simpa using hi), any_mem h.ps2, mkb_get _ _ _ _ (by simpa using hi), any_pan h.pk h.pn2]
  cases mem ps i <;> cases pan l i <;> simp [hi]
theorem Hds.hdl (h : Hds m gen root ps l last p) : Go.Proofs.YtjopnhhdemfniaaGreatDoor.hdl l ps m = ((List.range m).filter fun n => !mem ps n && pan l n).map fun n : Nat => (n : Int) := by
  unfold Go.Proofs.YtjopnhhdemfniaaGreatDoor.hdl rls1
  exact congrArg (List.map _) (List.filter_congr (fun n hn => h.hdb0 n (List.mem_range.1 hn)))
theorem Hds.held (h : Hds m gen root ps l last p) : sel p.use hdb = Go.Proofs.YtjopnhhdemfniaaGreatDoor.hdl l ps m := by
  rw [h.hdl]
  unfold sel selk
  rw [h.ul]
  refine congrArg (List.map _) (List.filter_congr (fun n hn => ?_))
  rw [h.use n (List.mem_range.1 hn), uw_hdb]
  by_cases q : 2 ≤ n
  · simp [q, pan]
  · have := h.low (show n < 2 by omega)
    rw [usd_eq, Bool.or_eq_false_iff] at this
    simp [q, this.2]
theorem Hds.hdl_mem (h : Hds m gen root ps l last p) {z : Int} (hz : z ∈ Go.Proofs.YtjopnhhdemfniaaGreatDoor.hdl l ps m) : ∃ n : Nat, z = (n : Int) ∧ n < m ∧ usd ps l n = true := by
  rw [h.hdl] at hz
  obtain ⟨n, hn, rfl⟩ := List.mem_map.1 hz
  obtain ⟨h1, h2⟩ := List.mem_filter.1 hn
  simp only [Bool.and_eq_true] at h2
  exact ⟨n, rfl, List.mem_range.1 h1, by rw [usd_eq, h2.2]; simp⟩
/-- What is used, as the law marks it. -/
theorem Hds.marks (h : Hds m gen root ps l last p) (i : Nat) (hi : i < m) : (mkb (ps.map Pg.number) true (mkb (Go.Proofs.YtjopnhhdemfniaaGreatDoor.hdl l ps m) true (List.replicate m false))).getD i false = usd ps l i := by
  rw [mkb_get _ _ _ _ (by rw [mkb_len]; simpa using hi), any_mem h.ps2, mkb_get _ _ _ _ (by simpa using hi), usd_eq, h.hdl]
  have e : ((((List.range m).filter fun n => !mem ps n && pan l n).map fun n : Nat => (n : Int)).any fun z => decide (z.toNat = i)) = (!mem ps i && pan l i) := by
    rw [Bool.eq_iff_iff]
    simp only [List.any_map, List.any_eq_true, Function.comp, decide_eq_true_eq, List.mem_filter, List.mem_range]
    constructor
    · rintro ⟨n, ⟨_, h2⟩, e⟩
      have : n = i := by omega
      subst this
      exact h2
    · intro q
      exact ⟨i, ⟨hi, q⟩, by omega⟩
  rw [e]
  cases mem ps i <;> cases pan l i <;> simp [hi]
theorem Hds.stnd (h : Hds m gen root ps l last p) (k : Nat) (h1 : 1 ≤ k) (h4 : k ≤ 4) : Go.Proofs.YtjopnhhdemfniaaGreatDoor.stnd p.pins (k : Int) = pst l k := by
  unfold Go.Proofs.YtjopnhhdemfniaaGreatDoor.stnd
  rw [h.pins, show ((k : Int)).toNat = k by omega, uw_bit _ _ _ h1 h4]
  have a1 : (1 : Int) ≤ (k : Int) := by omega
  have a2 : (k : Int) ≤ 4 := by omega
  simp [a1, a2]
end
/-- The law's search for the least number that no pin has. -/
def leak (l : List Pn) : Nat → Nat
  | 0 => 1
  | k + 1 => if (l.getD k noPn).1 = (leak l k : Int) then leak l k + 1 else leak l k
def lea (l : List Pn) : Nat := leak l l.length
def ins1 (l : List Pn) (x : Pn) : List Pn := l.take (lea l - 1) ++ [x] ++ l.drop (lea l - 1)
theorem leak_le (l : List Pn) (k : Nat) : 1 ≤ leak l k ∧ leak l k ≤ k + 1 := by
  induction k with
  | zero => exact ⟨Nat.le_refl _, Nat.le_refl _⟩
  | succ k ih =>
    unfold leak
    split <;> omega
/-- Below the least one all stand, in their places. -/
theorem leak_all (l : List Pn) (hs : l.Pairwise (fun x y => x.1 < y.1)) (hk : ∀ x ∈ l, 1 ≤ x.1) (k : Nat) (hkl : k ≤ l.length) : (∀ j, j + 1 < leak l k → (l.getD j noPn).1 = ((j + 1 : Nat) : Int)) ∧ (∀ j, j < k → leak l k ≤ j + 1 → (leak l k : Int) < (l.getD j noPn).1) := by
  have pw := List.pairwise_iff_getElem.1 hs
  have gd : ∀ j (h : j < l.length), l.getD j noPn = l[j] := fun j h => by simp [h]
  induction k with
  | zero => exact ⟨fun j hj => by simp [leak] at hj, fun j hj => absurd hj (Nat.not_lt_zero j)⟩
  | succ k ih =>
    obtain ⟨i1, i2⟩ := ih (by omega)
    have hl := leak_le l k
    have hkk : k < l.length := by omega
    -- numbers are at least their place and one
    have low : (leak l k : Int) ≤ (l.getD k noPn).1 := by
      by_cases q : leak l k = 1
      · have := hk _ (List.getElem_mem hkk)
        rw [gd k hkk, q]
        exact this
      · have h1 := i1 (leak l k - 2) (by omega)
        have hlt : leak l k - 2 < k := by omega
        have := pw (leak l k - 2) k (by omega) hkk hlt
        rw [gd _ (by omega)] at h1
        rw [gd k hkk]
        omega
    unfold leak
    split
    · rename_i q
      have hfull : leak l k = k + 1 := by
        by_cases r : leak l k ≤ k
        · have h3 := i2 (leak l k - 1) (by omega) (by omega)
          have h4 := pw (leak l k - 1) k (by omega) hkk (by omega)
          rw [gd k hkk] at q
          rw [gd _ (by omega)] at h3
          omega
        · omega
      refine ⟨fun j hj => ?_, fun j hj hj2 => by omega⟩
      by_cases e : j + 1 < leak l k
      · exact i1 j e
      · have ej : j + 1 = leak l k := by omega
        -- then j = k
        by_cases ek : j = k
        · subst ek
          rw [q, ej]
        · have := i2 j (by omega) (by omega)
          have h2 := pw j k (by omega) hkk (by omega)
          rw [gd k hkk] at q
          rw [gd j (by omega)] at this
          omega
    · rename_i q
      refine ⟨i1, fun j hj hj2 => ?_⟩
      by_cases ek : j = k
      · subst ek
        omega
      · exact i2 j (by omega) hj2
section
variable {l : List Pn}
theorem pst_iff {k : Nat} : pst l k = true ↔ ∃ x ∈ l, x.1 = (k : Int) := by simp [pst]
theorem lea_stands (hs : l.Pairwise (fun x y => x.1 < y.1)) (hk : ∀ x ∈ l, 1 ≤ x.1 ∧ x.1 ≤ 4) : (∀ j, 1 ≤ j → j < lea l → pst l j = true) ∧ pst l (lea l) = false ∧ lea l ≤ l.length + 1 ∧ 1 ≤ lea l := by
  obtain ⟨a1, a2⟩ := leak_all l hs (fun x hx => (hk x hx).1) l.length (Nat.le_refl _)
  have hl := leak_le l l.length
  have pw := List.pairwise_iff_getElem.1 hs
  have gd : ∀ j (h : j < l.length), l.getD j noPn = l[j] := fun j h => by simp [h]
  refine ⟨fun j h1 h2 => ?_, ?_, hl.2, hl.1⟩
  · have e := a1 (j - 1) (by unfold lea at h2; omega)
    have hj : j - 1 < l.length := by unfold lea at h2; omega
    rw [gd _ hj] at e
    exact pst_iff.2 ⟨l[j - 1], List.getElem_mem hj, by rw [e]; omega⟩
  · rw [Bool.eq_false_iff]
    intro q
    obtain ⟨x, hx, e⟩ := pst_iff.1 q
    obtain ⟨j, hj, rfl⟩ := List.getElem_of_mem hx
    by_cases r : leak l l.length ≤ j + 1
    · have := a2 j hj r
      rw [gd j hj, e] at this
      unfold lea at this
      omega
    · have := a1 j (by omega)
      rw [gd j hj, e] at this
      unfold lea at this
      omega
theorem len4 (hs : l.Pairwise (fun x y => x.1 < y.1)) (hk : ∀ x ∈ l, 1 ≤ x.1 ∧ x.1 ≤ 4) : l.length ≤ 4 ∧ (l.length = 4 → ∀ j, 1 ≤ j → j ≤ 4 → pst l j = true) := by
  have pw := List.pairwise_iff_getElem.1 hs
  have up : ∀ j (h : j < l.length), ((j + 1 : Nat) : Int) ≤ l[j].1 := by
    intro j
    induction j with
    | zero => intro h; exact (hk _ (List.getElem_mem h)).1
    | succ j ih =>
      intro h
      have := ih (by omega)
      have := pw j (j + 1) (by omega) h (by omega)
      omega
  have le : l.length ≤ 4 := by
    by_cases q : 4 < l.length
    · have := up 4 q
      have := (hk _ (List.getElem_mem q)).2
      omega
    · omega
  refine ⟨le, fun e j h1 h4 => ?_⟩
  have dn : ∀ i (h : 3 - i < l.length), i ≤ 3 → l[3 - i].1 ≤ ((4 - i : Nat) : Int) := by
    intro i
    induction i with
    | zero => intro h _; exact (hk _ (List.getElem_mem h)).2
    | succ i ih =>
      intro h hi
      have := ih (by omega) (by omega)
      have := pw (3 - (i + 1)) (3 - i) h (by omega) (by omega)
      omega
  have hj : j - 1 < l.length := by omega
  have h1' := up (j - 1) hj
  have h2' := dn (4 - j) (by omega) (by omega)
  have e2 : 3 - (4 - j) = j - 1 := by omega
  simp only [e2] at h2'
  exact pst_iff.2 ⟨l[j - 1], List.getElem_mem hj, by omega⟩
end
end Go.Proofs.YtjopnhhdemfniaaGreatDoor
namespace Go.Proofs.YtjopnhhdemfniaaGreatDoor
theorem uw_ext {b0 : Bool} {b c : Nat → Bool} (h : ∀ k, 1 ≤ k → k ≤ 4 → b k = c k) : uw b0 b = uw b0 c := by
  unfold uw
  rw [h 1 (by omega) (by omega), h 2 (by omega) (by omega), h 3 (by omega) (by omega), h 4 (by omega) (by omega)]
theorem getD_map0 (f : UInt8 → UInt8) (u : Us) (n : Nat) (h : n < u.length) : (u.map f).getD n 0 = f (u.getD n 0) := by simp [h]
section
variable {m : Nat} {gen root : Int} {ps : List Pg} {l : List Pn} {last : List Bs} {p : Pr}
theorem any_ins (x : Pn) (f : Pn → Bool) : (ins1 l x).any f = (f x || l.any f) := by
  unfold ins1
  rw [List.any_append, List.any_append, List.any_cons, List.any_nil, Bool.or_false]
  conv => rhs; rw [← List.take_append_drop (lea l - 1) l, List.any_append]
  cases (l.take (lea l - 1)).any f <;> cases f x <;> simp
theorem mem_ins {x y : Pn} : y ∈ ins1 l x ↔ y = x ∨ y ∈ l := by
  unfold ins1
  conv => rhs; rw [← List.take_append_drop (lea l - 1) l]
  simp only [List.mem_append, List.mem_singleton]
  constructor
  · rintro ((q | q) | q)
    · exact .inr (.inl q)
    · exact .inl q
    · exact .inr (.inr q)
  · rintro (q | q | q)
    · exact .inl (.inr q)
    · exact .inl (.inl q)
    · exact .inr q
theorem ins_sorted (hs : l.Pairwise (fun x y => x.1 < y.1)) (hk : ∀ x ∈ l, 1 ≤ x.1 ∧ x.1 ≤ 4) (Q : List Pg) : (ins1 l ((lea l : Int), Q)).Pairwise (fun x y => x.1 < y.1) := by
  obtain ⟨a1, a2⟩ := leak_all l hs (fun x hx => (hk x hx).1) l.length (Nat.le_refl _)
  have hl := leak_le l l.length
  have gd : ∀ j (h : j < l.length), l.getD j noPn = l[j] := fun j h => by simp [h]
  have h1 : ∀ x ∈ l.take (lea l - 1), x.1 < (lea l : Int) := fun x hx => by
    obtain ⟨j, hj, rfl⟩ := List.getElem_of_mem hx
    have hj' : j < lea l - 1 ∧ j < l.length := by simp at hj; omega
    have := a1 j (by unfold lea at hj'; omega)
    rw [gd j hj'.2] at this
    rw [List.getElem_take, this]
    omega
  have h2 : ∀ x ∈ l.drop (lea l - 1), (lea l : Int) < x.1 := fun x hx => by
    obtain ⟨j, hj, rfl⟩ := List.getElem_of_mem hx
    have hj' : lea l - 1 + j < l.length := by simp at hj; omega
    have := a2 (lea l - 1 + j) hj' (by unfold lea; omega)
    rw [gd _ hj'] at this
    rw [List.getElem_drop]
    exact this
  unfold ins1
  rw [List.append_assoc, List.pairwise_append, List.singleton_append, List.pairwise_cons]
  refine ⟨hs.sublist (List.take_sublist _ _), ⟨h2, hs.sublist (List.drop_sublist _ _)⟩, fun x hx y hy => ?_⟩
  rcases List.mem_cons.1 hy with rfl | hy
  · exact h1 x hx
  · exact Int.lt_trans (h1 x hx) (h2 y hy)
theorem kpp_uw (k : Nat) (h1 : 1 ≤ k) (h4 : k ≤ 4) (b0 : Bool) (b : Nat → Bool) : kpp k (uw b0 b) = uw b0 (if b0 then b5 k true b else b) := by
  unfold kpp
  rw [show (uw b0 b &&& 1 != 0) = rcb (uw b0 b) from rfl, uw_rcb]
  cases b0
  · rfl
  · simp only [if_true]
    exact uw_or _ _ _ h1 h4
/-- A pin more. -/
theorem Hds.pin (h : Hds m gen root ps l last p) (h4 : l.length < 4) : frst p.pins = lea l ∧ lea l ≤ 4 ∧ Hds m gen root ps (ins1 l ((lea l : Int), ps)) last (p.pin (lea l)) := by
  obtain ⟨s1, s2, s3, s4⟩ := lea_stands h.pl h.pk
  have hle : lea l ≤ 4 := by omega
  refine ⟨?_, hle, ⟨h.dl, h.d5, by simpa [Pr.pin] using h.ul, h.m8, h.db, h.hg, h.hr, h.hb, h.hm, h.gn, fun n hn => ?_, ?_, ins_sorted h.pl h.pk ps, fun x hx => ?_, fun x hx => ?_, h.srt, h.rt⟩⟩
  · have := frst_at p.pins (lea l - 1) (by omega) (fun j h1 h2 => by rw [h.stnd j h1 (by omega)]; exact s1 j h1 (by omega)) (by
      rw [show lea l - 1 + 1 = lea l by omega, h.stnd _ s4 hle]; exact s2)
    omega
  · show (p.use.map (kpp (lea l))).getD n 0 = _
    rw [getD_map0 _ _ _ (by rw [h.ul]; exact hn), h.use n hn, kpp_uw _ s4 hle]
    refine uw_ext (fun k h1 h2 => ?_)
    unfold pbn
    rw [any_ins]
    by_cases e : (lea l : Int) = (k : Int)
    · have e' : k = lea l := by omega
      subst e'
      cases hm : mem ps n
      · simp
      · simp [b5]
    · have e' : ¬ k = lea l := by omega
      have e2 : ¬ ((lea l : Int) = (k : Int)) := e
      cases hm : mem ps n
      · simp
      · simp [e', b5, decide_eq_false e2]
  · show p.pins ||| pnb (lea l) = _
    rw [h.pins, uw_or _ _ _ s4 hle]
    refine uw_ext (fun k h1 h2 => ?_)
    unfold pst
    rw [any_ins]
    unfold b5
    by_cases e : k = lea l
    · subst e; simp
    · rw [if_neg e, decide_eq_false (show ¬ ((lea l : Int), ps).1 = (k : Int) by show ¬ (lea l : Int) = (k : Int); omega)]
      simp
  · rcases mem_ins.1 hx with rfl | hx
    · exact ⟨by show (1 : Int) ≤ (lea l : Int); omega, by show (lea l : Int) ≤ 4; omega⟩
    · exact h.pk x hx
  · rcases hx with hx | ⟨y, hy, hx⟩
    · exact h.pg x (.inl hx)
    · rcases mem_ins.1 hy with rfl | hy
      · exact h.pg x (.inl hx)
      · exact h.pg x (.inr ⟨y, hy, hx⟩)
theorem Hds.pnv (h : Hds m gen root ps l last p) (a : Int) : Go.Proofs.YtjopnhhdemfniaaGreatDoor.pnv (Lv [] last a) p = if l.length = 4 then ((0, 95), p) else (((lea l : Int), 0), p.pin (lea l)) := by
  unfold Go.Proofs.YtjopnhhdemfniaaGreatDoor.pnv
  rw [if_neg (by rw [h.ask0]; simp), h.ask]
  obtain ⟨le, f4⟩ := len4 h.pl h.pk
  by_cases e : l.length = 4
  · rw [if_pos e, if_pos (frst_none p.pins (fun j h1 h2 => by rw [h.stnd j h1 h2]; exact f4 e j h1 h2))]
  · obtain ⟨a1, a2, _⟩ := h.pin (by omega)
    have := (lea_stands h.pl h.pk).2.2.2
    rw [if_neg e, if_neg (by rw [a1]; omega), a1]
theorem erase_any {i : Nat} (hs : l.Pairwise (fun x y => x.1 < y.1)) (hi : i < l.length) (f : List Pg → Bool) (k : Nat) : ((l.eraseIdx i).any fun x => decide (x.1 = (k : Int)) && f x.2) = if l[i].1 = (k : Int) then false else (l.any fun x => decide (x.1 = (k : Int)) && f x.2) := by
  have pw := List.pairwise_iff_getElem.1 hs
  rw [Bool.eq_iff_iff]
  by_cases e : l[i].1 = (k : Int)
  · rw [if_pos e]
    simp only [List.any_eq_true, Bool.and_eq_true, decide_eq_true_eq, Bool.false_eq_true, iff_false]
    rintro ⟨x, hx, e2, _⟩
    obtain ⟨j, hj, hne, rfl⟩ := List.mem_eraseIdx_iff_getElem.1 hx
    rcases Nat.lt_or_gt_of_ne hne with q | q
    · have := pw j i hj hi q; omega
    · have := pw i j hi hj q; omega
  · rw [if_neg e]
    simp only [List.any_eq_true, Bool.and_eq_true, decide_eq_true_eq]
    constructor
    · rintro ⟨x, hx, r⟩
      exact ⟨x, List.mem_of_mem_eraseIdx hx, r⟩
    · rintro ⟨x, hx, e2, r⟩
      obtain ⟨j, hj, rfl⟩ := List.getElem_of_mem hx
      refine ⟨l[j], List.mem_eraseIdx_iff_getElem.2 ⟨j, hj, ?_, rfl⟩, e2, r⟩
      intro q
      subst q
      exact e e2
/-- A pin less. -/
theorem Hds.unpin (h : Hds m gen root ps l last p) (a : Int) (i : Nat) (hi : i < l.length) : unp (Lv [] last a) p l[i].1 = (0, p.unpin l[i].1.toNat) ∧ Hds m gen root ps (l.eraseIdx i) last (p.unpin l[i].1.toNat) ∧ unp (Lv [] last a) (p.unpin l[i].1.toNat) l[i].1 = (95, p.unpin l[i].1.toNat) := by
  obtain ⟨b1, b2⟩ := h.pk _ (List.getElem_mem hi)
  obtain ⟨k, hk⟩ : ∃ k : Nat, l[i].1 = (k : Int) := ⟨l[i].1.toNat, by omega⟩
  have hk1 : 1 ≤ k ∧ k ≤ 4 := by omega
  have ek : l[i].1.toNat = k := by omega
  have hps : pst l k = true := pst_iff.2 ⟨l[i], List.getElem_mem hi, hk⟩
  have hH : Hds m gen root ps (l.eraseIdx i) last (p.unpin k) := by
    refine ⟨h.dl, h.d5, by simpa [Pr.unpin] using h.ul, h.m8, h.db, h.hg, h.hr, h.hb, h.hm, h.gn, fun n hn => ?_, ?_, h.pl.sublist (List.eraseIdx_sublist _ _), fun x hx => h.pk x (List.mem_of_mem_eraseIdx hx), fun x hx => ?_, h.srt, h.rt⟩
    · show (p.use.map (drp k)).getD n 0 = _
      rw [getD_map0 _ _ _ (by rw [h.ul]; exact hn), h.use n hn]
      show uw _ _ &&& ~~~ pnb k = _
      rw [uw_and _ _ _ hk1.1 hk1.2]
      refine uw_ext (fun j h1 h2 => ?_)
      unfold pbn
      rw [erase_any h.pl hi (fun q => mem q n), hk]
      unfold b5
      by_cases e : j = k
      · subst e; simp
      · rw [if_neg e, if_neg (by omega)]
    · show p.pins &&& ~~~ pnb k = _
      rw [h.pins, uw_and _ _ _ hk1.1 hk1.2]
      refine uw_ext (fun j h1 h2 => ?_)
      have := erase_any h.pl hi (fun _ => true) j
      simp only [Bool.and_true] at this
      unfold pst
      rw [this, hk]
      unfold b5
      by_cases e : j = k
      · subst e; simp
      · rw [if_neg e, if_neg (by omega)]
    · rcases hx with hx | ⟨y, hy, hx⟩
      · exact h.pg x (.inl hx)
      · exact h.pg x (.inr ⟨y, List.mem_of_mem_eraseIdx hy, hx⟩)
  rw [ek]
  refine ⟨?_, hH, ?_⟩
  · unfold unp
    rw [if_neg (by rw [h.ask0]; simp), h.ask, hk, if_pos (by rw [h.stnd k hk1.1 hk1.2]; exact hps), show ((k : Int)).toNat = k by omega]
  · unfold unp
    rw [if_neg (by rw [hH.ask0]; simp), hH.ask, hk, if_neg]
    rw [hH.stnd k hk1.1 hk1.2]
    have := erase_any h.pl hi (fun _ => true) k
    simp only [Bool.and_true] at this
    unfold pst
    rw [this, hk, if_pos rfl]
    simp
end
end Go.Proofs.YtjopnhhdemfniaaGreatDoor
namespace Go.Proofs.YtjopnhhdemfniaaGreatDoor
theorem trn_get (f : UInt8 → UInt8) (hf : ∀ x, f (f x) = f x) : ∀ (ns : List Int) (u : Us) (i : Nat), i < u.length → (trn f u ns).getD i 0 = if (ns.any fun z => decide (z.toNat = i)) = true then f (u.getD i 0) else u.getD i 0
  | [], _, _, _ => by simp [trn]
  | z :: ns, u, i, hi => by
    have e : trn f u (z :: ns) = trn f (u.set z.toNat (f (u.getD z.toNat 0))) ns := rfl
    rw [e, trn_get f hf ns _ i (by simpa using hi), List.any_cons]
    by_cases r : z.toNat = i
    · subst r
      have e1 : (u.set z.toNat (f (u.getD z.toNat 0))).getD z.toNat 0 = f (u.getD z.toNat 0) := by simp [hi]
      rw [e1, hf]
      simp
    · have e1 : (u.set z.toNat (f (u.getD z.toNat 0))).getD i 0 = u.getD i 0 := by
        simp only [List.getD_eq_getElem?_getD]
        rw [List.getElem?_set_ne r]
      rw [e1]
      simp [r]
theorem rsg_of {ns : List Int} (h : ns.Pairwise (· < ·)) : rsg ns = true := by
  have pw := List.pairwise_iff_getElem.1 h
  unfold rsg rsk
  rw [List.all_eq_true]
  intro k hk
  have hk' := List.mem_range.1 hk
  have h1 : k < ns.length := by omega
  have h2 : k + 1 < ns.length := by omega
  have := pw k (k + 1) h1 h2 (by omega)
  simp [h1, h2]
  exact this
theorem fre_sorted (m : Nat) (ps : List Pg) (l : List Pn) : (fre m ps l).Pairwise (· < ·) := by
  unfold fre
  rw [List.pairwise_map]
  refine List.Pairwise.imp ?_ ((List.pairwise_lt_range).sublist List.filter_sublist)
  intro a b h
  omega
theorem fre_mem {m : Nat} {ps : List Pg} {l : List Pn} {z : Int} (h : z ∈ fre m ps l) : ∃ n : Nat, z = (n : Int) ∧ 2 ≤ n ∧ n < m ∧ usd ps l n = false := by
  unfold fre at h
  obtain ⟨n, hn, rfl⟩ := List.mem_map.1 h
  obtain ⟨h1, h2⟩ := List.mem_filter.1 hn
  simp only [Bool.and_eq_true, decide_eq_true_eq, Bool.not_eq_true'] at h2
  exact ⟨n, rfl, h2.1, List.mem_range.1 h1, h2.2⟩
/-- Pages written behind one another. -/
def ptl (g : Int) (ws : List Wr) (F : List Pg) : List Wr := F.foldl (fun ws x => putW ws x.number.toNat (x.born g).blk) ws
theorem wps_lv (g : Int) : ∀ (F : List Pg) (ws : List Wr) (last : List Bs) (a : Int), (∀ x ∈ F, (x.born g).may = true ∧ 0 ≤ x.number ∧ x.number < last.length) → wps g (Lv ws last a) F = (0, Lv [] (snc last (ptl g ws F) (ptl g ws F).length) (a + F.length + 1))
  | [], ws, last, a, _ => by
    show (syncv _, Ds.sync _) = _
    rw [(lv_sync ws last a).1, (lv_sync ws last a).2]
    simp [ptl]
  | x :: F, ws, last, a, h => by
    obtain ⟨h1, h2, h3⟩ := h x List.mem_cons_self
    obtain ⟨e1, e2⟩ := lv_write ws last a h2 h3 (Pg.blk_len h1)
    unfold wps
    rw [if_neg (by rw [e1]; simp), e2, wps_lv g F _ last (a + 1) (fun y hy => h y (List.mem_cons_of_mem _ hy))]
    have : a + 1 + (F.length : Int) + 1 = a + ((x :: F).length : Int) + 1 := by simp; omega
    rw [this]
    rfl
theorem ptl_srt (g : Int) : ∀ (F : List Pg) (ws : List Wr), Srt ws → Srt (ptl g ws F)
  | [], _, h => h
  | _ :: F, _, h => ptl_srt g F _ (putW_srt h)
theorem ptl_lt (g : Int) (n : Nat) : ∀ (F : List Pg) (ws : List Wr), (∀ x ∈ ws, x.1 < n) → (∀ x ∈ F, x.number.toNat < n) → ∀ y ∈ ptl g ws F, y.1 < n
  | [], _, h, _ => h
  | x :: F, ws, h, hF => ptl_lt g n F _ (fun y hy => by
      rcases putW_mem hy with rfl | q
      · exact hF x List.mem_cons_self
      · exact h y q) (fun y hy => hF y (List.mem_cons_of_mem _ hy))
theorem ptl_off (g : Int) (n : Nat) : ∀ (F : List Pg) (ws : List Wr), (∀ x ∈ F, x.number.toNat ≠ n) → fnd (ptl g ws F) n = fnd ws n
  | [], _, _ => rfl
  | x :: F, ws, h => by
    show fnd (ptl g (putW ws _ _) F) n = _
    rw [ptl_off g n F _ (fun y hy => h y (List.mem_cons_of_mem _ hy)), putW_fnd, if_neg (Ne.symm (h x List.mem_cons_self))]
theorem ptl_on (g : Int) : ∀ (F : List Pg) (ws : List Wr), F.Pairwise (fun x y => x.number.toNat ≠ y.number.toNat) → ∀ x ∈ F, fnd (ptl g ws F) x.number.toNat = some (x.born g).blk
  | [], _, _, _, h => by cases h
  | x :: F, ws, hp, y, hy => by
    obtain ⟨h1, h2⟩ := List.pairwise_cons.1 hp
    show fnd (ptl g (putW ws _ _) F) _ = _
    rcases List.mem_cons.1 hy with rfl | q
    · rw [ptl_off g _ F _ (fun z hz => Ne.symm (h1 z hz)), putW_fnd, if_pos rfl]
    · exact ptl_on g F _ h2 y q
section
variable {m : Nat} {gen root : Int} {ps : List Pg} {l : List Pn} {last : List Bs} {p : Pr}
theorem Hds.prok (h : Hds m gen root ps l last p) (a : Int) : Prok (Lv [] last a) p := by
  have lw : ∀ n, n < 2 → p.use.getD n 0 &&& 1 = 0 := fun n hn => by
    have hm8 := h.m8
    have hu := h.low hn
    rw [usd_eq, Bool.or_eq_false_iff] at hu
    rw [h.use n (by omega)]
    have := uw_rcb (mem ps n) (pbn l n)
    rw [hu.1] at this ⊢
    unfold rcb at this
    simpa using this
  exact ⟨h.hm, by show p.h.blocks = (last.length : Int); rw [h.hb, h.dl], by show p.use.length = last.length; rw [h.ul, h.dl], lw 0 (by omega), lw 1 (by omega)⟩
/-- What a commit of the law's makes. -/
theorem Hds.commit (h : Hds m gen root ps l last p) (a : Int) (F : List Pg) (root' : Int) (nt : Bs) (keep : Bool) (ps' : List Pg) (hgen : gen ≤ 1000000000000)
    (f1 : F.all Pg.fresh = true) (f2 : F.map Pg.number = (fre m ps l).take F.length) (f3 : ∀ x ∈ F, x.birth = gen + 1) (hnt : nt.length = 16)
    (f5 : ∀ x ∈ F, ∀ z ∈ x.links, ∃ y ∈ F ++ (if keep then ps else []), y.number = z) (f6 : root' = 0 ∨ ∃ y ∈ F ++ (if keep then ps else []), y.number = root')
    (f7 : ps'.Perm (F ++ (if keep then ps else []))) (f8 : ps'.Pairwise (fun x y => x.number < y.number)) :
    ∃ last' p', cmr (Lv [] last a) p F root' nt (if keep then [] else ps.map Pg.number) = (0, Lv [] last' (a + F.length + 3), p') ∧ Hds m (gen + 1) root' ps' l last' p' ∧ (∀ n, n < m → usd ps l n = true → last'.getD n [] = last.getD n []) := by
  have hm8 := h.m8
  have fnum : ∀ x ∈ F, ∃ n : Nat, x.number = (n : Int) ∧ 2 ≤ n ∧ n < m ∧ usd ps l n = false := fun x hx => by
    have : x.number ∈ (fre m ps l).take F.length := by rw [← f2]; exact List.mem_map_of_mem hx
    exact fre_mem (List.mem_of_mem_take this)
  have fsort : (F.map Pg.number).Pairwise (· < ·) := by rw [f2]; exact (fre_sorted m ps l).sublist (List.take_sublist _ _)
  have fpw : F.Pairwise (fun x y => x.number < y.number) := List.pairwise_map.1 fsort
  have ffr : ∀ x ∈ F, x.fresh = true := List.all_eq_true.1 f1
  have fmay : ∀ x ∈ F, (x.born (gen + 1)).may = true := fun x hx => by
    have hf := ffr x hx
    have hg := h.gn
    unfold Pg.may Pg.born
    have : isGn (gen + 1) = true := by simp [isGn]; omega
    show (isGn (gen + 1) && Pg.fresh x) = true
    rw [this, hf]
    rfl
  have fborn : ∀ x ∈ F, x.born (gen + 1) = x := fun x hx => by
    have := f3 x hx
    cases x
    simp_all [Pg.born]
  -- what is used then
  have hmemF : ∀ n : Nat, ((F.map Pg.number).any fun z => decide (z.toNat = n)) = mem F n := any_mem (fun x hx => by obtain ⟨k, e, _⟩ := fnum x hx; omega)
  have hgone : ∀ n : Nat, (((if keep then [] else ps.map Pg.number) : List Int).any fun z => decide (z.toNat = n)) = (!keep && mem ps n) := fun n => by
    cases keep
    · simpa using any_mem h.ps2 n
    · rfl
  have hS : ∀ n : Nat, mem (F ++ (if keep then ps else [])) n = (mem F n || (keep && mem ps n)) := fun n => by
    unfold mem
    rw [List.any_append]
    cases keep <;> simp
  have hps' : ∀ n : Nat, mem ps' n = mem (F ++ (if keep then ps else [])) n := fun n => by
    rw [Bool.eq_iff_iff, mem_iff, mem_iff]
    constructor
    · rintro ⟨x, hx, e⟩; exact ⟨x, f7.mem_iff.1 hx, e⟩
    · rintro ⟨x, hx, e⟩; exact ⟨x, f7.mem_iff.2 hx, e⟩
  have hal : (after p.use (F.map Pg.number) (if keep then [] else ps.map Pg.number)).length = m := by
    unfold after
    rw [trn_len, trn_len, h.ul]
  have haft : ∀ n, n < m → (after p.use (F.map Pg.number) (if keep then [] else ps.map Pg.number)).getD n 0 = uw (mem ps' n) (pbn l n) := fun n hn => by
    unfold after
    rw [trn_get (· ||| 1) (fun x => by show x ||| 1 ||| 1 = x ||| 1; rw [UInt8.or_assoc]; rfl) _ _ _ (by rw [trn_len, h.ul]; exact hn), trn_get (· &&& 254) (fun x => by show x &&& 254 &&& 254 = x &&& 254; rw [UInt8.and_assoc]; rfl) _ _ _ (by rw [h.ul]; exact hn), hmemF, hgone, h.use n hn, hps', hS]
    have e1 : ∀ b0, uw b0 (pbn l n) ||| 1 = uw true (pbn l n) := fun b0 => uv_or1 _ _ _ _ _
    have e2 : ∀ b0, uw b0 (pbn l n) &&& 254 = uw false (pbn l n) := fun b0 => uv_and254 _ _ _ _ _
    cases keep <;> cases mem F n <;> cases mem ps n <;> simp [e1, e2]
  have hhas : ∀ n : Nat, n < m → hasv (after p.use (F.map Pg.number) (if keep then [] else ps.map Pg.number)) (n : Int) 1 = mem ps' n := fun n hn => by
    unfold hasv
    rw [show ((n : Int)).toNat = n by omega, haft n hn, show (uw (mem ps' n) (pbn l n) &&& 1 != 0) = rcb (uw (mem ps' n) (pbn l n)) from rfl, uw_rcb, hal]
    simp [hn]
  have hin : ∀ y ∈ F ++ (if keep then ps else []), ∃ n : Nat, y.number = (n : Int) ∧ n < m ∧ 2 ≤ n ∧ mem ps' n = true := fun y hy => by
    have hy' := f7.mem_iff.2 hy
    rcases List.mem_append.1 hy with q | q
    · obtain ⟨k, e, k2, k3, _⟩ := fnum y q
      exact ⟨k, e, k3, k2, mem_iff.2 ⟨y, hy', e⟩⟩
    · have hyp : y ∈ ps := by cases keep; simp at q; exact q
      obtain ⟨_, b2, b3, _⟩ := h.pg y (.inl hyp)
      exact ⟨y.number.toNat, by omega, by omega, by omega, mem_iff.2 ⟨y, hy', by omega⟩⟩
  have hlast' : ∀ x ∈ F, (x.born (gen + 1)).may = true ∧ 0 ≤ x.number ∧ x.number < last.length := fun x hx => by
    obtain ⟨k, e, k2, k3, _⟩ := fnum x hx
    exact ⟨fmay x hx, by omega, by rw [h.dl]; omega⟩
  -- the head
  have hhm : (nxh p root' nt).may = true := by
    have hg := h.gn
    have hgg : isGn (p.h.gen + 1) = true := by rw [h.hg]; simp [isGn]; omega
    unfold nxh Hd.may
    simp only [hgg, h.hb, hnt, Bool.true_and]
    have r1 : decide (root' = 0) = true ∨ (decide (2 ≤ root') && decide (root' < (m : Int))) = true := by
      rcases f6 with q | ⟨y, hy, e⟩
      · exact .inl (by simpa using q)
      · obtain ⟨k, e2, k3, k2, _⟩ := hin y hy
        right
        simp
        omega
    have r2 : (decide ((8 : Int) ≤ (m : Int)) && decide ((m : Int) ≤ 4096)) = true := by simp; omega
    rcases r1 with q | q <;> simp [q, r2]
  obtain ⟨L1, hL1⟩ : ∃ L1, L1 = snc last (ptl (gen + 1) [] F) (ptl (gen + 1) [] F).length := ⟨_, rfl⟩
  have s0 : Srt ([] : List Wr) := fun i j _ hj => absurd hj (by simp)
  have lt1 : ∀ y ∈ ptl (gen + 1) [] F, y.1 < last.length := ptl_lt _ _ F [] (fun x hx => by cases hx) (fun x hx => by have := hlast' x hx; omega)
  have l1len : L1.length = last.length := by rw [hL1, snc_len]
  have c1 : ∀ n, L1.getD n [] = (fnd (ptl (gen + 1) [] F) n).getD (last.getD n []) := fun n => by rw [hL1]; exact lv_cur_sync _ _ (ptl_srt _ F [] s0) lt1 n
  have hgm : (nxh p root' nt).gen = gen + 1 := by show p.h.gen + 1 = _; rw [h.hg]
  have hw1 : wps (nxh p root' nt).gen (Lv [] last a) F = (0, Lv [] L1 (a + F.length + 1)) := by rw [hgm, wps_lv _ F [] last a hlast', hL1]
  obtain ⟨b, hb⟩ : ∃ b : Nat, (nxh p root' nt).gen % 2 = (b : Int) ∧ b < 2 := ⟨((nxh p root' nt).gen % 2).toNat, by omega⟩
  have hbl : (nxh p root' nt).blk.length = 512 := Hd.blk_len (Hd.may_note hhm)
  obtain ⟨e1, e2⟩ := lv_write [] L1 (a + F.length + 1) (b := (nxh p root' nt).gen % 2) (by omega) (by rw [l1len, h.dl]; omega) hbl
  obtain ⟨e3, e4⟩ := lv_sync (putW [] ((nxh p root' nt).gen % 2).toNat (nxh p root' nt).blk) L1 (a + F.length + 1 + 1)
  have htv : trv (Lv [] last a) F (nxh p root' nt) = 0 := by
    unfold trv
    rw [hw1, if_neg (by simp)]
    unfold wrhv
    rw [if_neg (by rw [e1]; simp), e2, e3]
  have htd : trd (Lv [] last a) F (nxh p root' nt) = Lv [] (L1.set b (nxh p root' nt).blk) (a + F.length + 3) := by
    unfold trd
    rw [hw1, if_neg (by simp)]
    unfold wrhd
    rw [if_neg (by rw [e1]; simp), e2, e4]
    have : ((nxh p root' nt).gen % 2).toNat = b := by omega
    rw [this]
    have ea : a + (F.length : Int) + 1 + 1 + 1 = a + (F.length : Int) + 3 := by omega
    rw [ea]
    rfl
  have hclo : clo (after p.use (F.map Pg.number) (if keep then [] else ps.map Pg.number)) F root' = true := by
    unfold clo
    rw [Bool.and_eq_true, Bool.or_eq_true]
    refine ⟨?_, List.all_eq_true.2 (fun x hx => ?_)⟩
    · rcases f6 with q | ⟨y, hy, e⟩
      · exact .inl (by simpa using q)
      · obtain ⟨k, e2, k3, k2, hm⟩ := hin y hy
        right
        rw [← e, e2, hhas k k3]
        exact hm
    · unfold lkb
      rw [List.all_eq_true]
      intro z hz
      obtain ⟨y, hy, e⟩ := f5 x hx z hz
      obtain ⟨k, e2, k3, k2, hm⟩ := hin y hy
      rw [← e, e2, hhas k k3]
      exact hm
  have hgoneS : (if keep then [] else ps.map Pg.number).Pairwise (· < ·) := by
    cases keep
    · exact List.pairwise_map.2 h.srt
    · exact List.Pairwise.nil
  have hgall : (if keep then [] else ps.map Pg.number).all (hasv p.use · 1) = true := by
    rw [List.all_eq_true]
    intro z hz
    cases keep
    · obtain ⟨x, hx, rfl⟩ := List.mem_map.1 hz
      obtain ⟨_, b2, b3, _⟩ := h.pg x (.inl hx)
      obtain ⟨n, hn⟩ : ∃ n : Nat, x.number = (n : Int) := ⟨x.number.toNat, by omega⟩
      rw [hn, h.has1 (by omega)]
      exact mem_iff.2 ⟨x, hx, hn⟩
    · simp at hz
  refine ⟨L1.set b (nxh p root' nt).blk, { p with h := nxh p root' nt, use := after p.use (F.map Pg.number) (if keep then [] else ps.map Pg.number) }, ?_, ?_, ?_⟩
  · rw [cmr_eq, if_neg (by omega), f1, rsg_of fsort, rsg_of hgoneS, if_neg (by simp), if_neg (by rw [h.ask0]; simp), h.ask, h.free, hgall, if_neg (by simp [f2]), hclo, if_neg (by simp), if_neg (by rw [h.hg]; omega), htv, htd, if_pos rfl]
  · have cL : ∀ n, 2 ≤ n → (L1.set b (nxh p root' nt).blk).getD n [] = L1.getD n [] := fun n hn => by
      simp only [List.getD_eq_getElem?_getD]
      rw [List.getElem?_set_ne (by omega)]
    refine ⟨by rw [List.length_set, l1len, h.dl], fun x hx => ?_, hal, h.m8, h.db, hgm, rfl, h.hb, hhm, by have := h.gn; omega, haft, h.pins, h.pl, h.pk, fun x hx => ?_, f8, ?_⟩
    · rcases List.mem_or_eq_of_mem_set hx with q | rfl
      · rw [hL1] at q
        refine snc_sz h.d5 (fun y hy => ⟨lt1 y hy, ?_⟩) _ (Nat.le_refl _) x q
        -- every write has a page's bytes
        have key : ∀ (F : List Pg) (ws : List Wr), (∀ x ∈ ws, x.2.length = 512) → (∀ x ∈ F, (x.born (gen + 1)).may = true) → ∀ y ∈ ptl (gen + 1) ws F, y.2.length = 512 := by
          intro F
          induction F with
          | nil => intro ws h1 _; exact h1
          | cons z F ih =>
            intro ws h1 h2
            refine ih _ (fun y hy => ?_) (fun y hy => h2 y (List.mem_cons_of_mem _ hy))
            rcases putW_mem hy with rfl | q
            · exact Pg.blk_len (h2 z List.mem_cons_self)
            · exact h1 y q
        exact key F [] (fun x hx => by cases hx) fmay y hy
      · exact hbl
    · have hold : ∀ x, (x ∈ ps ∨ ∃ y ∈ l, x ∈ y.2) → x.may = true ∧ 2 ≤ x.number ∧ x.number < m ∧ (L1.set b (nxh p root' nt).blk).getD x.number.toNat [] = x.blk := fun x hx => by
        obtain ⟨a1, a2, a3, a4⟩ := h.pg x hx
        refine ⟨a1, a2, a3, ?_⟩
        rw [cL _ (by omega), c1, ptl_off _ _ F [] (fun y hy e => ?_)]
        · exact a4
        · obtain ⟨k, e2, _, _, hu⟩ := fnum y hy
          have : usd ps l k = true := usd_of x k (by omega) h.pk hx
          rw [hu] at this
          cases this
      rcases hx with hx | hx
      · rcases List.mem_append.1 (f7.mem_iff.1 hx) with q | q
        · obtain ⟨k, e2, k2, k3, _⟩ := fnum x q
          have hmx := fmay x q
          rw [fborn x q] at hmx
          refine ⟨hmx, by omega, by omega, ?_⟩
          rw [cL _ (by omega), c1, ptl_on _ F [] (fpw.imp_of_mem (fun {u v} hu hv huv e => by
            obtain ⟨k1, a1, _⟩ := fnum u hu
            obtain ⟨k2, a2, _⟩ := fnum v hv
            omega)) x q, fborn x q]
          rfl
        · have hxp : x ∈ ps := by cases keep; simp at q; exact q
          exact hold x (.inl hxp)
      · exact hold x (.inr hx)
    · rcases f6 with q | ⟨y, hy, e⟩
      · exact .inl q
      · exact .inr ⟨y, f7.mem_iff.2 hy, e⟩
  · intro n hn hu
    have h2 : 2 ≤ n := by
      by_cases q : 2 ≤ n
      · exact q
      · rw [h.low (by omega)] at hu; cases hu
    simp only [List.getD_eq_getElem?_getD]
    rw [List.getElem?_set_ne (by omega)]
    have := c1 n
    simp only [List.getD_eq_getElem?_getD] at this
    rw [this, ptl_off _ _ F [] (fun y hy e => ?_)]
    · rfl
    · obtain ⟨k, e2, _, _, hu2⟩ := fnum y hy
      have : k = n := by omega
      subst this
      rw [hu2] at hu
      cases hu
end
end Go.Proofs.YtjopnhhdemfniaaGreatDoor
/- A store laid on a new disk of any size. -/
namespace Go.Proofs.YtjopnhhdemfniaaGreatDoor
open Go.RowKit
set_option maxHeartbeats 4000000
def Bz (r : Nat) (a b : Bs) : List Bs := a :: b :: List.replicate r zs
theorem bz_len (r : Nat) (a b : Bs) : (Bz r a b).length = r + 2 := by simp [Bz]
theorem bz_512 {r : Nat} {a b : Bs} (ha : a.length = 512) (hb : b.length = 512) : ∀ x ∈ Bz r a b, x.length = 512 := by
  intro x hx
  simp only [Bz, List.mem_cons, List.mem_replicate] at hx
  rcases hx with rfl | rfl | ⟨_, rfl⟩
  · exact ha
  · exact hb
  · exact zs_len
theorem bz_new (r : Nat) : Ds.new (List.replicate (r + 2) zs) = Lv [] (Bz r zs zs) 0 := rfl
theorem hon_z0 (r : Nat) (b : Bs) (k : Int) : hon (Lv [] (Bz r zs b) k) 0 = (noHd, false) := by
  have hr : reachv (Lv [] (Bz r zs b) k) ((0 : Nat) : Int) = 0 := lv_reach _ _ _ (by omega) (by rw [bz_len]; omega)
  have hc : cur (Lv [] (Bz r zs b) k) 0 = zs := rfl
  unfold hon hok
  rw [if_pos hr, hc, phr_zs]
  rfl
theorem hct_z (r : Nat) (k : Int) : (hct (Lv [] (Bz r zs zs) k)).2 = false := by
  have h1 : hon (Lv [] (Bz r zs zs) k) 1 = (noHd, false) := by
    have hr : reachv (Lv [] (Bz r zs zs) k) ((1 : Nat) : Int) = 0 := lv_reach _ _ _ (by omega) (by rw [bz_len]; omega)
    have hc : cur (Lv [] (Bz r zs zs) k) 1 = zs := rfl
    unfold hon hok
    rw [if_pos hr, hc, phr_zs]
    rfl
  unfold hct
  simp only [lst, hon_z0, h1]
  rfl
theorem hct_z1 (r : Nat) (h : Hd) (hm : h.may = true) (hb : h.blocks = ((r + 2 : Nat) : Int)) (hg : h.gen = 1) (k : Int) : hct (Lv [] (Bz r zs h.blk) k) = (h, true) := by
  have h1 : hon (Lv [] (Bz r zs h.blk) k) 1 = (h, true) := by
    have hr : reachv (Lv [] (Bz r zs h.blk) k) ((1 : Nat) : Int) = 0 := lv_reach _ _ _ (by omega) (by rw [bz_len]; omega)
    have hc : cur (Lv [] (Bz r zs h.blk) k) 1 = h.blk := rfl
    have hp : phr h.blk = (h, 0) := by unfold phr; rw [phd_blk hm]
    have hl : (Lv [] (Bz r zs h.blk) k).last.length = r + 2 := bz_len _ _ _
    unfold hon hok
    rw [if_pos hr, hc, hp, hb, hg, hl]
    simp
  have h0 := hon_z0 r h.blk k
  have l1 : lst (Lv [] (Bz r zs h.blk) k) 1 = noHd := by
    show (if (hon (Lv [] (Bz r zs h.blk) k) 0).2 = true ∧ _ then _ else noHd) = noHd
    rw [h0, if_neg (by simp)]
  have l2 : lst (Lv [] (Bz r zs h.blk) k) 2 = h := by
    show (if (hon (Lv [] (Bz r zs h.blk) k) 1).2 = true ∧ (lst (Lv [] (Bz r zs h.blk) k) 1).gen < (hon (Lv [] (Bz r zs h.blk) k) 1).1.gen then (hon (Lv [] (Bz r zs h.blk) k) 1).1 else lst (Lv [] (Bz r zs h.blk) k) 1) = h
    rw [h1, l1]
    exact if_pos ⟨rfl, by rw [hg]; decide⟩
  unfold hct
  rw [l2, hg]
  rfl
def hZ (r : Nat) (n : Bs) : Hd := ⟨1, 0, ((r + 2 : Nat) : Int), n⟩
theorem bz_ok {r : Nat} (h6 : 6 ≤ r ∧ r ≤ 4094) {a b : Bs} (ha : a.length = 512) (hb : b.length = 512) (k : Int) : Ok (Lv [] (Bz r a b) k) := by
  refine ⟨fun i j h1 h2 => absurd h2 (Nat.not_lt_zero _), fun x hx => (nomatch hx), bz_512 ha hb, ?_, ⟨by show (0 : Int) ≤ 0; omega, by show (0 : Int) ≤ 9223372036854775807; omega⟩⟩
  rw [show (Lv [] (Bz r a b) k).last = Bz r a b from rfl, bz_len]
  omega
theorem hZ_may {r : Nat} (h6 : 6 ≤ r ∧ r ≤ 4094) {n : Bs} (hn : n.length = 16) : (hZ r n).may = true := by
  have := fst1_may (bz_ok h6 zs_len zs_len 0) hn
  unfold fst1 at this
  rw [show (Lv [] (Bz r zs zs) 0).last = Bz r zs zs from rfl, bz_len] at this
  exact this
theorem fmt_z {r : Nat} (h6 : 6 ≤ r ∧ r ≤ 4094) {n : Bs} (hn : n.length = 16) : fmt (Lv [] (Bz r zs zs) 0) n = (0, Lv [] (Bz r zs (hZ r n).blk) 3) := by
  have hw := lv_write [] (Bz r zs zs) 0 (b := 0) (by omega) (by rw [bz_len]; omega) zs_len
  have e1 : fst1 (Lv [] (Bz r zs zs) 0) n = hZ r n := by
    unfold fst1 hZ
    rw [show (Lv [] (Bz r zs zs) 0).last = Bz r zs zs from rfl, bz_len]
  have hl := Hd.blk_len (Hd.may_note (hZ_may h6 hn))
  generalize hBK : (hZ r n).blk = BK at *
  have hw2 := lv_write [(0, zs)] (Bz r zs zs) 1 (b := 1) (by omega) (by rw [bz_len]; omega) hl
  have hs := lv_sync [(0, zs), (1, BK)] (Bz r zs zs) 2
  have hwd : (Lv [] (Bz r zs zs) 0).write 0 zs = Lv [(0, zs)] (Bz r zs zs) 1 := hw.2
  have hw1 : writev (Lv [] (Bz r zs zs) 0) 0 zs = 0 := hw.1
  have hg : (hZ r n).gen % 2 = 1 := rfl
  have hp : putW [(0, zs)] (1 : Int).toNat BK = [(0, zs), (1, BK)] := rfl
  unfold fmt
  rw [if_neg (by simp [hn]), if_neg (show ¬ (Lv [] (Bz r zs zs) 0).dead = true from Bool.false_ne_true), if_neg (by rw [hct_z]; simp), if_neg (by simp [hw1]), e1, hwd]
  unfold wrhv wrhd
  rw [hg, hBK, if_neg (by simp [hw2.1]), if_neg (by simp [hw2.1]), hw2.2, hp]
  exact Prod.ext hs.1 hs.2
def pZ (r : Nat) (n : Bs) : Pr := ⟨hZ r n, List.replicate (r + 2) 0, 0, false⟩
theorem hds_z {r : Nat} (h6 : 6 ≤ r ∧ r ≤ 4094) {n : Bs} (hn : n.length = 16) : Hds (r + 2) 1 0 [] [] (Bz r zs (hZ r n).blk) (pZ r n) where
  dl := bz_len _ _ _
  d5 := bz_512 zs_len (Hd.blk_len (Hd.may_note (hZ_may h6 hn)))
  ul := by simp [pZ]
  m8 := by omega
  db := rfl
  hg := rfl
  hr := rfl
  hb := rfl
  hm := hZ_may h6 hn
  gn := by omega
  use := fun j hj => by
    have : (pZ r n).use.getD j 0 = 0 := by simp [pZ, hj]
    rw [this]
    show (0 : UInt8) = uv false false false false false
    decide
  pins := by
    show (0 : UInt8) = uv false false false false false
    decide
  pl := .nil
  pk := fun x hx => nomatch hx
  pg := fun x hx => by rcases hx with q | ⟨y, q, _⟩ <;> cases q
  srt := .nil
  rt := .inl rfl
variable {P D : Nat} {vw vl vu : Value} {W : World}
theorem z_new (r : Nat) (h6 : 6 ≤ r ∧ r ≤ 4094) (w : World) : Calls Tryz.prog 33 #[I ((r + 2 : Nat) : Int)] w fun e w' => ∃ D V, e = .returned (.tuple #[ptr D, I 0]) ∧ DAt D (Lv [] (Bz r zs zs) 0) (.slice none 0 0) V w' ∧ (∀ k, Of D (.slice none 0 0) V k → w.heap.size ≤ k) ∧ Below w.heap.size w w' := by
  refine (new_any ((r + 2 : Nat) : Int) w ⟨by omega, by omega⟩).mono ?_
  rintro e w' (⟨q, _⟩ | ⟨_, D, V, h1, h2, h3, h4⟩)
  · simp [mayv] at q
    omega
  · rw [show (((r + 2 : Nat) : Int)).toNat = r + 2 by omega, bz_new] at h2
    exact ⟨D, V, h1, h2, h3, h4⟩
theorem z_fmt {r : Nat} (h6 : 6 ≤ r ∧ r ≤ 4094) {n : Bs} (hn : n.length = 16) (q : DAt D (Lv [] (Bz r zs zs) 0) vw vl W) : Calls Tryz.prog 35 #[ptr D, S n] W fun e w' => e = .returned (I 0) ∧ DTo D vw vl (Lv [] (Bz r zs (hZ r n).blk) 3) W w' := by
  have h := format_any q (bz_ok h6 zs_len zs_len 0) ⟨by show (0 : Int) ≤ 0; omega, by show (0 : Int) ≤ 99999999999999999; omega⟩ n
  rw [fmt_z h6 hn] at h
  exact h
theorem z_mnt {r : Nat} (h6 : 6 ≤ r ∧ r ≤ 4094) {n : Bs} (hn : n.length = 16) (q : DAt D (Lv [] (Bz r zs (hZ r n).blk) 3) vw vl W) : Calls Tryz.prog 39 #[ptr D] W fun e w' => ∃ P vu, e = .returned (.tuple #[ptr P, I 0]) ∧ PD P D (Lv [] (Bz r zs (hZ r n).blk) 3) (pZ r n) vw vl vu w' ∧ W.heap.size ≤ P ∧ (∀ k, vu.ownBlock = some k → W.heap.size ≤ k) ∧ Below W.heap.size W w' := by
  have e : hct (Lv [] (Bz r zs (hZ r n).blk) 3) = (hZ r n, true) := hct_z1 r (hZ r n) (hZ_may h6 hn) rfl rfl 3
  have h := mount0_any q (bz_ok h6 zs_len (Hd.blk_len (Hd.may_note (hZ_may h6 hn))) 3) rfl (by rw [e]) (by rw [e]; rfl)
  rw [e, show (Lv [] (Bz r zs (hZ r n).blk) 3).last.length = r + 2 from bz_len _ _ _] at h
  exact h
end Go.Proofs.YtjopnhhdemfniaaGreatDoor
/- Pure: what a turn of the law's makes may be committed. -/
namespace Go.Proofs.YtjopnhhdemfniaaGreatDoor
open Go.RowKit
set_option maxHeartbeats 4000000
def bornP (g : Int) (x : Pg) : Pg := { x with birth := g }
theorem leaf_fresh (n c g : Int) (hn : isPg n = true) : (bornP g (leafv n c)).fresh = true := by
  have h3 := pkv_lt c 3 (by omega)
  have h6 := pkv_lt c 60 (by omega)
  unfold bornP leafv Pg.fresh
  simp only [List.length_nil, List.all_nil, Bool.and_true, hn]
  simp [lfb]
  omega
/-- The pages that are made. -/
theorem frs_low (how : Int) (fr : List Int) (root c g : Int) (h : pkv how 5 ≤ 3) : frs how fr root c g = ((List.range (fr.length - 1)).map fun i => bornP g (leafv (fr.getD i 0) (c + (i : Int)))) ++ [bornP g (rootv fr (if pkv how 5 ≤ 1 then root else 0) c)] := by
  unfold frs lvs
  by_cases q : pkv how 5 ≤ 1
  · rw [if_pos q, if_pos q, List.map_map]; rfl
  · rw [if_neg q, if_neg q, if_pos h, List.map_map]; rfl
theorem frs_high (how : Int) (fr : List Int) (root c g : Int) (h : ¬ pkv how 5 ≤ 3) : frs how fr root c g = [] := by
  unfold frs
  rw [if_neg (by omega), if_neg h]
theorem frs_num (how : Int) (fr : List Int) (root c g : Int) (h : pkv how 5 ≤ 3) (h1 : 0 < fr.length) : (frs how fr root c g).map Pg.number = fr := by
  rw [frs_low _ _ _ _ _ h, List.map_append, List.map_map]
  apply List.ext_getElem
  · simp; omega
  · intro i hi hj
    by_cases q : i < fr.length - 1
    · rw [List.getElem_append_left (by simpa using q)]
      simp [bornP, leafv, hj]
    · have e : i = fr.length - 1 := by omega
      rw [List.getElem_append_right (by simp; omega)]
      subst e
      simp [bornP, rootv, leafv, List.getElem?_eq_getElem hj]
theorem frs_birth (how : Int) (fr : List Int) (root c g : Int) : ∀ x ∈ frs how fr root c g, x.birth = g := by
  intro x hx
  by_cases h : pkv how 5 ≤ 3
  · rw [frs_low _ _ _ _ _ h] at hx
    rcases List.mem_append.1 hx with q | q
    · obtain ⟨i, _, rfl⟩ := List.mem_map.1 q
      rfl
    · rw [List.mem_singleton.1 q]
      rfl
  · rw [frs_high _ _ _ _ _ h] at hx
    cases hx
variable {m : Nat} {gen root : Int} {ps : List Pg} {l : List Pn} {last : List Bs} {p : Pr}
theorem frs_mem {how : Int} {fr : List Int} {c g : Int} {r : Int} {x : Pg} (h1 : 0 < fr.length) (hx : x ∈ frs how fr r c g) : pkv how 5 ≤ 3 ∧ ((∃ i, i < fr.length ∧ x = bornP g (leafv (fr.getD i 0) (c + (i : Int)))) ∨ x = bornP g (rootv fr (if pkv how 5 ≤ 1 then r else 0) c)) := by
  by_cases h : pkv how 5 ≤ 3
  · refine ⟨h, ?_⟩
    rw [frs_low _ _ _ _ _ h] at hx
    rcases List.mem_append.1 hx with q | q
    · obtain ⟨i, hi, rfl⟩ := List.mem_map.1 q
      exact .inl ⟨i, by have := List.mem_range.1 hi; omega, rfl⟩
    · exact .inr (List.mem_singleton.1 q)
  · rw [frs_high _ _ _ _ _ h] at hx
    cases hx
theorem gns_low {how : Int} {ps : List Pg} (h : pkv how 5 ≤ 1) : gns how ps = [] := by
  unfold gns
  rw [if_neg (by omega)]
theorem gns_four {how : Int} {ps : List Pg} (h : ¬ pkv how 5 ≤ 3) : gns how ps = [] := by
  unfold gns
  rw [if_neg (by omega)]
theorem gns_ne {how : Int} {ps : List Pg} (h : ¬ gns how ps = []) : gns how ps = ps.map Pg.number := by
  unfold gns at *
  split
  · rfl
  · rename_i q
    rw [if_neg q] at h
    exact absurd rfl h
theorem Hds.rtp (h : Hds m gen root ps l last p) (hr : root ≠ 0) : isPg root = true := by
  rcases h.rt with q | ⟨x, hx, e⟩
  · exact absurd q hr
  · have := h.pg x (.inl hx)
    have h8 := h.m8
    simp [isPg]
    omega
theorem Hds.turn (h : Hds m gen root ps l last p) (a how c : Int) (k : Nat) (h1 : 1 ≤ k) (hk5 : k ≤ 5) (hkf : k ≤ (fre m ps l).length) (hgen : gen ≤ 1000000000000) (ps' : List Pg) (fr : List Int) (hfr : fr = (fre m ps l).take k) (rt : Int) (hrt : rt = if pkv how 5 ≤ 3 then fr.getD (fr.length - 1) 0 else root)
    (hp : ps'.Perm (if gns how ps = [] then frs how fr root c (gen + 1) ++ ps else frs how fr root c (gen + 1))) (hs : ps'.Pairwise (fun x y => x.number ≤ y.number)) :
    ∃ last' p', cmr (Lv [] last a) p (frs how fr root c (gen + 1)) rt (nte c) (gns how ps) = (0, Lv [] last' (a + (frs how fr root c (gen + 1)).length + 3), p') ∧ Hds m (gen + 1) rt ps' l last' p' ∧ (∀ n, n < m → usd ps l n = true → last'.getD n [] = last.getD n []) := by
  have hfl : fr.length = k := by rw [hfr, List.length_take]; omega
  have h8 := h.m8
  have hin : ∀ z ∈ fr, ∃ n : Nat, z = (n : Int) ∧ 2 ≤ n ∧ n < m ∧ usd ps l n = false := fun z hz => by
    rw [hfr] at hz
    exact fre_mem (List.mem_of_mem_take hz)
  have hpg : ∀ z ∈ fr, isPg z = true := fun z hz => by
    obtain ⟨n, rfl, q1, q2, _⟩ := hin z hz
    simp [isPg]
    omega
  have hpi : ∀ i, i < fr.length → isPg (fr.getD i 0) = true := fun i hi => hpg _ (getD_in fr 0 i hi)
  have key := h.commit a (frs how fr root c (gen + 1)) rt (nte c) (decide (gns how ps = [])) ps' hgen ?_ ?_ (frs_birth _ _ _ _ _) (nte_len c) ?_ ?_ ?_ ?_
  · have e : (if decide (gns how ps = []) = true then [] else ps.map Pg.number) = gns how ps := by
      by_cases q : gns how ps = []
      · rw [if_pos (by simpa using q), q]
      · rw [if_neg (by simpa using q), gns_ne q]
    rw [e] at key
    exact key
  · rw [List.all_eq_true]
    intro x hx
    obtain ⟨hl, ⟨i, hi, rfl⟩ | rfl⟩ := frs_mem (by omega) hx
    · exact leaf_fresh _ _ _ (hpi i hi)
    · have hb := pkv_lt (c + (fr.length : Int)) 60 (by omega)
      have h3 := pkv_lt (c + (fr.length : Int)) 3 (by omega)
      have hroot := hpi (fr.length - 1) (by omega)
      have hlk : (lks0 fr (if pkv how 5 ≤ 1 then root else 0) (fr.length - 1)).all isPg = true := by
        unfold lks0 old0
        rw [List.all_append, Bool.and_eq_true, List.all_eq_true, List.all_eq_true]
        refine ⟨fun z hz => ?_, fun z hz => hpg z (List.mem_of_mem_take hz)⟩
        by_cases q1 : pkv how 5 ≤ 1
        · rw [if_pos q1] at hz
          by_cases q : root = 0
          · rw [if_pos q] at hz; cases hz
          · rw [if_neg q] at hz
            rw [List.mem_singleton.1 hz]
            exact h.rtp q
        · rw [if_neg q1, if_pos rfl] at hz
          cases hz
      have hll := lks0_len fr (if pkv how 5 ≤ 1 then root else 0) (fr.length - 1)
      unfold bornP rootv leafv Pg.fresh
      simp only [hlk, hroot, Bool.and_true]
      simp [lfb]
      omega
  · by_cases hl : pkv how 5 ≤ 3
    · rw [frs_num _ _ _ _ _ hl (by omega)]
      have : (frs how fr root c (gen + 1)).length = k := by
        have := congrArg List.length (frs_num how fr root c (gen + 1) hl (by omega))
        rw [List.length_map] at this
        omega
      rw [this, hfr]
    · rw [frs_high _ _ _ _ _ hl]
      rfl
  · intro x hx z hz
    obtain ⟨hl, ⟨i, hi, rfl⟩ | rfl⟩ := frs_mem (by omega) hx
    · cases hz
    · have hz' : z ∈ old0 (if pkv how 5 ≤ 1 then root else 0) ++ fr.take (fr.length - 1) := hz
      rcases List.mem_append.1 hz' with q | q
      · unfold old0 at q
        by_cases q1 : pkv how 5 ≤ 1
        · rw [if_pos q1] at q
          by_cases q0 : root = 0
          · rw [if_pos q0] at q; cases q
          · rw [if_neg q0] at q
            rcases h.rt with e | ⟨y, hy, e⟩
            · exact absurd e q0
            · refine ⟨y, List.mem_append.2 (.inr ?_), by rw [List.mem_singleton.1 q]; exact e⟩
              rw [if_pos (by simpa using gns_low q1)]
              exact hy
        · rw [if_neg q1, if_pos rfl] at q
          cases q
      · have : z ∈ (frs how fr root c (gen + 1)).map Pg.number := by
          rw [frs_num _ _ _ _ _ hl (by omega)]
          exact List.mem_of_mem_take q
        obtain ⟨y, hy, e⟩ := List.mem_map.1 this
        exact ⟨y, List.mem_append.2 (.inl hy), e⟩
  · by_cases hl : pkv how 5 ≤ 3
    · right
      have : rt ∈ (frs how fr root c (gen + 1)).map Pg.number := by
        rw [frs_num _ _ _ _ _ hl (by omega), hrt, if_pos hl]
        exact getD_in fr 0 _ (by omega)
      obtain ⟨y, hy, e⟩ := List.mem_map.1 this
      exact ⟨y, List.mem_append.2 (.inl hy), e⟩
    · rw [if_neg hl] at hrt
      rw [hrt]
      refine h.rt.imp id (fun ⟨x, hx, e⟩ => ⟨x, List.mem_append.2 (.inr ?_), e⟩)
      rw [if_pos (by simpa using gns_four hl)]
      exact hx
  · by_cases q : gns how ps = []
    · rw [if_pos q] at hp
      rw [if_pos (by simpa using q)]
      exact hp
    · rw [if_neg q] at hp
      rw [if_neg (by simpa using q), List.append_nil]
      exact hp
  · have hF : (frs how fr root c (gen + 1)).Pairwise (fun x y => x.number ≠ y.number) := by
      by_cases hl : pkv how 5 ≤ 3
      · have e := frs_num how fr root c (gen + 1) hl (by omega)
        have : ((frs how fr root c (gen + 1)).map Pg.number).Pairwise (· < ·) := by
          rw [e, hfr]
          exact (fre_sorted m ps l).sublist (List.take_sublist _ _)
        exact (List.pairwise_map.1 this).imp (fun q => by omega)
      · rw [frs_high _ _ _ _ _ hl]
        exact .nil
    have hN : (if gns how ps = [] then frs how fr root c (gen + 1) ++ ps else frs how fr root c (gen + 1)).Pairwise (fun x y => x.number ≠ y.number) := by
      split
      · rw [List.pairwise_append]
        refine ⟨hF, h.srt.imp (fun q => by omega), fun x hx y hy e => ?_⟩
        obtain ⟨hl, _⟩ := frs_mem (by omega) hx
        have hm := List.mem_map_of_mem (f := Pg.number) hx
        rw [frs_num _ _ _ _ _ hl (by omega)] at hm
        obtain ⟨n, e2, _, _, hu⟩ := hin _ hm
        have := usd_of (ps := ps) (l := l) y n (by rw [← e]; exact e2) h.pk (.inl hy)
        rw [hu] at this
        cases this
      · exact hF
    have hN' := (hp.pairwise_iff (fun {x y} (q : x.number ≠ y.number) => Ne.symm q)).2 hN
    exact (hs.and hN').imp (fun ⟨q1, q2⟩ => by omega)
end Go.Proofs.YtjopnhhdemfniaaGreatDoor
