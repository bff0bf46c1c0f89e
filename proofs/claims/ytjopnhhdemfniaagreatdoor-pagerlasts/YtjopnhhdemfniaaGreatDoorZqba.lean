import Derived.Test.YtjopnhhdemfniaaGreatDoorZqab
import Derived.Test.YtjopnhhdemfniaaGreatDoorZpis
import Derived.Test.YtjopnhhdemfniaaGreatDoorZpic
import Derived.Deep.QuietTactic
import Derived.BigQuiet
/- Pure: what a pager keeps, by the law's own book of pages and pins. -/
namespace Go.Proofs.YtjopnhhdemfniaaGreatDoor
def uv (b0 b1 b2 b3 b4 : Bool) : UInt8 := (if b0 then 1 else 0) ||| (if b1 then 2 else 0) ||| (if b2 then 4 else 0) ||| (if b3 then 8 else 0) ||| (if b4 then 16 else 0)
theorem uv_or1 (b0 b1 b2 b3 b4 : Bool) : uv b0 b1 b2 b3 b4 ||| 1 = uv true b1 b2 b3 b4 := by cases b0 <;> cases b1 <;> cases b2 <;> cases b3 <;> cases b4 <;> rfl
theorem uv_and254 (b0 b1 b2 b3 b4 : Bool) : uv b0 b1 b2 b3 b4 &&& 254 = uv false b1 b2 b3 b4 := by cases b0 <;> cases b1 <;> cases b2 <;> cases b3 <;> cases b4 <;> rfl
theorem uv_frb (b0 b1 b2 b3 b4 : Bool) : (uv b0 b1 b2 b3 b4 == 0) = !(b0 || b1 || b2 || b3 || b4) := by cases b0 <;> cases b1 <;> cases b2 <;> cases b3 <;> cases b4 <;> rfl
theorem uv_rcb (b0 b1 b2 b3 b4 : Bool) : (uv b0 b1 b2 b3 b4 &&& 1 != 0) = b0 := by cases b0 <;> cases b1 <;> cases b2 <;> cases b3 <;> cases b4 <;> rfl
theorem uv_255 (b0 b1 b2 b3 b4 : Bool) : (uv b0 b1 b2 b3 b4 &&& 255 != 0) = (b0 || b1 || b2 || b3 || b4) := by cases b0 <;> cases b1 <;> cases b2 <;> cases b3 <;> cases b4 <;> rfl
def uw (b0 : Bool) (b : Nat → Bool) : UInt8 := uv b0 (b 1) (b 2) (b 3) (b 4)
theorem fnd_append (a b : List Wr) (m : Nat) : fnd (a ++ b) m = match fnd a m with | some s => some s | none => fnd b m := by
  induction a with
  | nil => rfl
  | cons x a ih =>
    rw [List.cons_append, fnd_cons, fnd_cons]
    split
    · rfl
    · exact ih
theorem snc_at (last : List Bs) (ws : List Wr) (hs : Srt ws) (k m : Nat) (hk : k ≤ ws.length) (hl : ∀ x ∈ ws, x.1 < last.length) : (snc last ws k).getD m [] = (fnd (ws.take k) m).getD (last.getD m []) := by
  induction k with
  | zero => simp [snc, fnd]
  | succ k ih =>
    have hk' : k < ws.length := by omega
    have ex : ws.getD k (0, []) = ws[k] := by simp [hk']
    have hlt := hl _ (mem_getD (z := (0, [])) hk')
    rw [List.take_succ_eq_append_getElem hk', fnd_append]
    unfold snc
    by_cases q : m = (ws.getD k (0, [])).1
    · have n1 : fnd (ws.take k) m = none := by
        cases r : fnd (ws.take k) m with
        | none => rfl
        | some s =>
          have hm := fnd_mem r
          obtain ⟨j, hj, e⟩ := List.getElem_of_mem hm
          have hj2 : j < k := by simp at hj; omega
          have := hs j k hj2 hk'
          rw [List.getElem_take] at e
          have ej : ws.getD j (0, []) = (m, s) := by rw [← e]; simp [show j < ws.length by omega]
          rw [ej] at this
          simp only at this
          omega
      rw [n1]
      simp only
      rw [q, List.getD_eq_getElem?_getD, List.getElem?_set_self (by rw [snc_len]; exact hlt)]
      rw [ex]
      simp [fnd]
    · rw [List.getD_eq_getElem?_getD, List.getElem?_set_ne (fun r => q r.symm), ← List.getD_eq_getElem?_getD, ih (by omega)]
      cases r : fnd (ws.take k) m with
      | some s => rfl
      | none =>
        have : ¬ ws[k].1 = m := by rw [← ex]; exact fun e => q e.symm
        simp [fnd, this]

/-- What a disk that lives has at a place, written or lasting. -/
theorem lv_cur_sync (ws : List Wr) (last : List Bs) (hs : Srt ws) (hl : ∀ x ∈ ws, x.1 < last.length) (n : Nat) : (snc last ws ws.length).getD n [] = (fnd ws n).getD (last.getD n []) := by
  have := snc_at last ws hs ws.length n (Nat.le_refl _) hl
  rwa [List.take_length] at this
def mem (ps : List Pg) (n : Nat) : Bool := ps.any fun x => decide (x.number = (n : Int))
theorem mem_iff {ps : List Pg} {n : Nat} : mem ps n = true ↔ ∃ x ∈ ps, x.number = (n : Int) := by simp [mem]
def pbn (l : List Pn) (n k : Nat) : Bool := l.any fun x => decide (x.1 = (k : Int)) && mem x.2 n
def pst (l : List Pn) (k : Nat) : Bool := l.any fun x => decide (x.1 = (k : Int))
def pan (l : List Pn) (n : Nat) : Bool := pbn l n 1 || pbn l n 2 || pbn l n 3 || pbn l n 4
def usd (ps : List Pg) (l : List Pn) (n : Nat) : Bool := mem ps n || pbn l n 1 || pbn l n 2 || pbn l n 3 || pbn l n 4
theorem usd_eq (ps : List Pg) (l : List Pn) (n : Nat) : usd ps l n = (mem ps n || pan l n) := by simp [usd, pan, Bool.or_assoc]
def fre (m : Nat) (ps : List Pg) (l : List Pn) : List Int := ((List.range m).filter fun n => decide (2 ≤ n) && !usd ps l n).map fun n : Nat => (n : Int)
/-- The pager and its disk, as the law's book has them. -/
structure Hds (m : Nat) (gen root : Int) (ps : List Pg) (l : List Pn) (last : List Bs) (p : Pr) : Prop where
  dl : last.length = m
  d5 : ∀ x ∈ last, x.length = 512
  ul : p.use.length = m
  m8 : 8 ≤ m ∧ m ≤ 4096
  db : p.doubt = false
  hg : p.h.gen = gen
  hr : p.h.root = root
  hb : p.h.blocks = (m : Int)
  hm : p.h.may = true
  gn : 1 ≤ gen
  use : ∀ n, n < m → p.use.getD n 0 = uw (mem ps n) (pbn l n)
  pins : p.pins = uw false (pst l)
  pl : l.Pairwise (fun x y => x.1 < y.1)
  pk : ∀ x ∈ l, 1 ≤ x.1 ∧ x.1 ≤ 4
  pg : ∀ x, (x ∈ ps ∨ ∃ y ∈ l, x ∈ y.2) → x.may = true ∧ 2 ≤ x.number ∧ x.number < m ∧ last.getD x.number.toNat [] = x.blk
  srt : ps.Pairwise (fun x y => x.number < y.number)
  rt : root = 0 ∨ ∃ x ∈ ps, x.number = root
section
variable {m : Nat} {gen root : Int} {ps : List Pg} {l : List Pn} {last : List Bs} {p : Pr}
theorem Hds.ask0 (h : Hds m gen root ps l last p) (a : Int) : askv (Lv [] last a) p = 0 := by unfold askv Lv; simp [h.db]
theorem Hds.ask (h : Hds m gen root ps l last p) (a : Int) : p.ask (Lv [] last a) = p := by
  have := h.db
  cases p
  simp_all [Pr.ask, Lv]
theorem pbn_mem {n k : Nat} : pbn l n k = true ↔ ∃ x ∈ l, x.1 = (k : Int) ∧ mem x.2 n = true := by simp [pbn]
theorem Hds.low (h : Hds m gen root ps l last p) {n : Nat} (hn : n < 2) : usd ps l n = false := by
  rw [Bool.eq_false_iff]
  intro q
  simp only [usd, Bool.or_eq_true] at q
  have key : ∀ k, pbn l n k = true → False := fun k r => by
    obtain ⟨y, hy, _, hm⟩ := pbn_mem.1 r
    obtain ⟨x, hx, e⟩ := mem_iff.1 hm
    have := (h.pg x (.inr ⟨y, hy, hx⟩)).2.1
    omega
  rcases q with (((q | q) | q) | q) | q
  · obtain ⟨x, hx, e⟩ := mem_iff.1 q
    have := (h.pg x (.inl hx)).2.1
    omega
  all_goals exact key _ q
theorem uw_255 (b0 : Bool) (b : Nat → Bool) : (uw b0 b &&& 255 != 0) = (b0 || b 1 || b 2 || b 3 || b 4) := uv_255 _ _ _ _ _
theorem uw_frb (b0 : Bool) (b : Nat → Bool) : frb (uw b0 b) = !(b0 || b 1 || b 2 || b 3 || b 4) := uv_frb _ _ _ _ _
theorem uw_rcb (b0 : Bool) (b : Nat → Bool) : rcb (uw b0 b) = b0 := uv_rcb _ _ _ _ _
theorem uw_hdb (b0 : Bool) (b : Nat → Bool) : hdb (uw b0 b) = (!b0 && (b 1 || b 2 || b 3 || b 4)) := by
  unfold hdb
  rw [uw_rcb, show (uw b0 b != 0) = !(uw b0 b == 0) from rfl, show (uw b0 b == 0) = frb (uw b0 b) from rfl, uw_frb]
  cases b0 <;> simp
theorem Hds.has (h : Hds m gen root ps l last p) {n : Nat} (hn : n < m) : hasv p.use (n : Int) 255 = usd ps l n := by
  unfold hasv
  rw [show ((n : Int)).toNat = n by omega, h.use n hn, uw_255, h.ul]
  simp [usd, hn]
theorem Hds.has1 (h : Hds m gen root ps l last p) {n : Nat} (hn : n < m) : hasv p.use (n : Int) 1 = mem ps n := by
  unfold hasv
  rw [show ((n : Int)).toNat = n by omega, h.use n hn, show (uw (mem ps n) (pbn l n) &&& 1 != 0) = rcb (uw (mem ps n) (pbn l n)) from rfl, uw_rcb, h.ul]
  simp [hn]
theorem usd_of (x : Pg) (n : Nat) (e : x.number = (n : Int)) (hk : ∀ y ∈ l, 1 ≤ y.1 ∧ y.1 ≤ 4) (hx : x ∈ ps ∨ ∃ y ∈ l, x ∈ y.2) : usd ps l n = true := by
  rcases hx with hx | ⟨y, hy, hx⟩
  · simp [usd, mem_iff.2 ⟨x, hx, e⟩]
  · have hm := mem_iff.2 ⟨x, hx, e⟩
    have hb := hk y hy
    have key : ∀ k : Nat, y.1 = (k : Int) → pbn l n k = true := fun k e => pbn_mem.2 ⟨y, hy, e, hm⟩
    rcases (by omega : y.1 = 1 ∨ y.1 = 2 ∨ y.1 = 3 ∨ y.1 = 4) with q | q | q | q
    · simp [usd, key 1 q]
    · simp [usd, key 2 q]
    · simp [usd, key 3 q]
    · simp [usd, key 4 q]
/-- A page that is kept is read. -/
theorem Hds.rd (h : Hds m gen root ps l last p) (a : Int) (x : Pg) (hx : x ∈ ps ∨ ∃ y ∈ l, x ∈ y.2) : rdp (Lv [] last a) p x.number = (x, 0) := by
  obtain ⟨m1, m2, m3, m4⟩ := h.pg x hx
  obtain ⟨n, hn⟩ : ∃ n : Nat, x.number = (n : Int) := ⟨x.number.toNat, by omega⟩
  unfold rdp
  rw [if_neg (by rw [h.ask0]; simp), if_neg (by rw [hn, h.has (by omega), usd_of x n hn h.pk hx]; simp)]
  have hr : reachv (Lv [] last a) x.number = 0 := lv_reach _ _ _ (by omega) (by rw [h.dl]; exact m3)
  have hc : cur (Lv [] last a) x.number.toNat = x.blk := m4
  unfold readS prp
  rw [if_pos hr, hc, prs_blk m1]
theorem Hds.free (h : Hds m gen root ps l last p) : sel p.use frb = fre m ps l := by
  unfold sel selk fre
  rw [h.ul]
  refine congrArg (List.map _) (List.filter_congr (fun n hn => ?_))
  rw [h.use n (List.mem_range.1 hn), uw_frb]
  rfl
theorem Hds.nxt (h : Hds m gen root ps l last p) (a : Int) (k : Nat) : nxt (Lv [] last a) p (k : Int) = if (fre m ps l).length < k then ([], 92) else ((fre m ps l).take k, 0) := by
  unfold Go.Proofs.YtjopnhhdemfniaaGreatDoor.nxt
  rw [if_neg (by omega), if_neg (by rw [h.ask0]; simp), h.free]
  by_cases q : (fre m ps l).length < k
  · rw [if_pos q, if_pos (by omega)]
  · rw [if_neg q, if_neg (by omega), show ((k : Int)).toNat = k by omega]
end
end Go.Proofs.YtjopnhhdemfniaaGreatDoor
/- Pure: pages of which each is named once. -/
namespace Go.Proofs.YtjopnhhdemfniaaGreatDoor
open Go.RowKit
def rnk (x : Pg) : Int := x.birth * 5000 + x.number
def tgt (root : Int) : List Int := if root = 0 then [] else [root]
structure Tre (root : Int) (ps : List Pg) : Prop where
  perm : (tgt root ++ ps.flatMap Pg.links).Perm (ps.map Pg.number)
  rank : ∀ x ∈ ps, ∀ z ∈ x.links, ∀ y ∈ ps, y.number = z → rnk y < rnk x
theorem max_of (r : Pg → Int) : ∀ U : List Pg, U ≠ [] → ∃ x ∈ U, ∀ y ∈ U, r y ≤ r x
  | [], h => absurd rfl h
  | x :: U, _ => by
    by_cases e : U = []
    · subst e
      exact ⟨x, by simp, by simp⟩
    · obtain ⟨y, hy, h⟩ := max_of r U e
      by_cases q : r x ≤ r y
      · exact ⟨y, List.mem_cons_of_mem _ hy, fun z hz => by
          rcases List.mem_cons.1 hz with rfl | hz
          · exact q
          · exact h z hz⟩
      · exact ⟨x, List.mem_cons_self .., fun z hz => by
          rcases List.mem_cons.1 hz with rfl | hz
          · exact Int.le_refl _
          · have := h z hz; omega⟩
/-- What is left to be gone over: a stack, and the pages that were not met. -/
structure Dfs (ps : List Pg) (S : List Int) (U : List Pg) : Prop where
  perm : (S ++ U.flatMap Pg.links).Perm (U.map Pg.number)
  sub : ∀ x ∈ U, x ∈ ps
  nd : (U.map Pg.number).Nodup
theorem Dfs.begin {root : Int} {ps : List Pg} (h : Tre root ps) (hn : (ps.map Pg.number).Nodup) : Dfs ps (tgt root) ps := ⟨h.perm, fun _ q => q, hn⟩
theorem Dfs.step {ps : List Pg} {S : List Int} {n : Int} {U : List Pg} (h : Dfs ps (S ++ [n]) U) : ∃ x U', x ∈ ps ∧ x.number = n ∧ (0 ≤ n → mem U n.toNat = true) ∧ Dfs ps (S ++ x.links) U' ∧ U'.length + 1 = U.length ∧ (∀ k : Nat, mem U' k = (mem U k && !decide (x.number = (k : Int)))) := by
  have hm : n ∈ U.map Pg.number := h.perm.mem_iff.1 (by simp)
  obtain ⟨x, hx, rfl⟩ := List.mem_map.1 hm
  obtain ⟨U1, U2, rfl⟩ := List.append_of_mem hx
  have hnd := h.nd
  rw [List.map_append, List.map_cons, List.nodup_append, List.nodup_cons] at hnd
  refine ⟨x, U1 ++ U2, h.sub x hx, rfl, ?_, ⟨?_, fun y hy => h.sub y (by
    rcases List.mem_append.1 hy with q | q
    · exact List.mem_append.2 (.inl q)
    · exact List.mem_append.2 (.inr (List.mem_cons_of_mem _ q))), ?_⟩, by simp; omega, ?_⟩
  · intro q
    rw [mem_iff]
    exact ⟨x, hx, by omega⟩
  · have hp := h.perm
    rw [List.perm_iff_count] at hp ⊢
    intro a
    have := hp a
    simp only [List.count_append, List.count_cons, List.flatMap_append, List.flatMap_cons, List.map_append, List.map_cons, List.count_nil] at this ⊢
    omega
  · rw [List.map_append, List.nodup_append]
    refine ⟨hnd.1, hnd.2.1.2, fun a ha b hb => hnd.2.2 a ha b (List.mem_cons_of_mem _ hb)⟩
  · intro k
    by_cases q : x.number = (k : Int)
    · rw [decide_eq_true q, Bool.not_true, Bool.and_false]
      have : ¬ mem (U1 ++ U2) k = true := fun e => by
        obtain ⟨y, hy, e⟩ := mem_iff.1 e
        rcases List.mem_append.1 hy with r | r
        · exact hnd.2.2 y.number (List.mem_map_of_mem r) x.number (List.mem_cons_self ..) (by omega)
        · exact hnd.2.1.1 (by rw [show x.number = y.number by omega]; exact List.mem_map_of_mem r)
      simpa using this
    · rw [decide_eq_false q, Bool.not_false, Bool.and_true]
      simp [mem, q]
theorem Dfs.done {root : Int} {ps U : List Pg} (ht : Tre root ps) (h : Dfs ps [] U) : U = [] := by
  by_cases e : U = []
  · exact e
  · obtain ⟨x, hx, hm⟩ := max_of rnk U e
    have : x.number ∈ [] ++ U.flatMap Pg.links := h.perm.mem_iff.2 (List.mem_map_of_mem hx)
    obtain ⟨y, hy, hl⟩ := List.mem_flatMap.1 (by simpa using this)
    have h1 := ht.rank y (h.sub y hy) x.number hl x (h.sub x hx) rfl
    have h2 := hm y hy
    omega
end Go.Proofs.YtjopnhhdemfniaaGreatDoor
namespace Go.Proofs.YtjopnhhdemfniaaGreatDoor
theorem mkb_get (v : Bool) : ∀ (ns : List Int) (b : List Bool) (i : Nat), i < b.length → (mkb ns v b).getD i false = if (ns.any fun z => decide (z.toNat = i)) = true then v else b.getD i false
  | [], _, _, _ => by simp [mkb]
  | z :: ns, b, i, hi => by
    have e : mkb (z :: ns) v b = mkb ns v (b.set z.toNat v) := rfl
    rw [e, mkb_get v ns _ i (by simpa using hi), List.any_cons]
    by_cases q : (ns.any fun z => decide (z.toNat = i)) = true
    · rw [if_pos q, if_pos (by rw [q]; simp)]
    · rw [if_neg q]
      by_cases r : z.toNat = i
      · rw [if_pos (by simp [r]), r]
        simp [hi]
      · rw [if_neg (by simp [r]; simpa using q)]
        simp only [List.getD_eq_getElem?_getD]
        rw [List.getElem?_set_ne r]
section
variable {m : Nat} {gen root : Int} {ps : List Pg} {l : List Pn} {last : List Bs} {p : Pr}
theorem any_mem (h : ∀ x ∈ ps, 2 ≤ x.number) (i : Nat) : ((ps.map Pg.number).any fun z => decide (z.toNat = i)) = mem ps i := by
  rw [Bool.eq_iff_iff, mem_iff]
  simp only [List.any_map, List.any_eq_true, Function.comp, decide_eq_true_eq]
  constructor
  · rintro ⟨x, hx, e⟩
    exact ⟨x, hx, by have := h x hx; omega⟩
  · rintro ⟨x, hx, e⟩
    exact ⟨x, hx, by omega⟩
theorem any_pan (hk : ∀ y ∈ l, 1 ≤ y.1 ∧ y.1 ≤ 4) (h : ∀ y ∈ l, ∀ x ∈ y.2, 2 ≤ x.number) (i : Nat) : ((pnn l l.length).any fun z => decide (z.toNat = i)) = pan l i := by
  unfold pnn
  rw [List.take_length, Bool.eq_iff_iff]
  simp only [List.any_flatMap, List.any_map, List.any_eq_true, Function.comp, decide_eq_true_eq, pan, Bool.or_eq_true, pbn_mem, mem_iff]
  constructor
  · rintro ⟨y, hy, x, hx, e⟩
    have e' : x.number = (i : Int) := by have := h y hy x hx; omega
    have hb := hk y hy
    rcases (by omega : y.1 = 1 ∨ y.1 = 2 ∨ y.1 = 3 ∨ y.1 = 4) with q | q | q | q
    · exact .inl (.inl (.inl ⟨y, hy, q, x, hx, e'⟩))
    · exact .inl (.inl (.inr ⟨y, hy, q, x, hx, e'⟩))
    · exact .inl (.inr ⟨y, hy, q, x, hx, e'⟩)
    · exact .inr ⟨y, hy, q, x, hx, e'⟩
  · rintro (((⟨y, hy, _, x, hx, e⟩ | ⟨y, hy, _, x, hx, e⟩) | ⟨y, hy, _, x, hx, e⟩) | ⟨y, hy, _, x, hx, e⟩) <;> exact ⟨y, hy, x, hx, by omega⟩
theorem Hds.ps2 (h : Hds m gen root ps l last p) : ∀ x ∈ ps, 2 ≤ x.number := fun x hx => (h.pg x (.inl hx)).2.1
theorem Hds.pn2 (h : Hds m gen root ps l last p) : ∀ y ∈ l, ∀ x ∈ y.2, 2 ≤ x.number := fun y hy x hx => (h.pg x (.inr ⟨y, hy, hx⟩)).2.1
theorem Hds.hdb0 (h : Hds m gen root ps l last p) (i : Nat) (hi : i < m) : (Go.Proofs.YtjopnhhdemfniaaGreatDoor.hdb0 l ps m).getD i false = (!mem ps i && pan l i) := by
  unfold Go.Proofs.YtjopnhhdemfniaaGreatDoor.hdb0
  rw [mkb_get _ _ _ _ (by rw [mkb_len]; simpa using hi), any_mem h.ps2, mkb_get _ _ _ _ (by simpa using hi), any_pan h.pk h.pn2]
  cases mem ps i <;> cases pan l i <;> simp [hi]
theorem Hds.hdl (h : Hds m gen root ps l last p) : Go.Proofs.YtjopnhhdemfniaaGreatDoor.hdl l ps m = ((List.range m).filter fun n => !mem ps n && pan l n).map fun n : Nat => (n : Int) := by
  unfold Go.Proofs.YtjopnhhdemfniaaGreatDoor.hdl rls1
  exact congrArg (List.map _) (List.filter_congr (fun n hn => h.hdb0 n (List.mem_range.1 hn)))
theorem Hds.held (h : Hds m gen root ps l last p) : sel p.use hdb = Go.Proofs.YtjopnhhdemfniaaGreatDoor.hdl l ps m := by
  rw [h.hdl]
  unfold sel selk
  rw [h.ul]
  refine congrArg (List.map _) (List.filter_congr (fun n hn => ?_))
  rw [h.use n (List.mem_range.1 hn), uw_hdb]
  by_cases q : 2 ≤ n
  · simp [q, pan]
  · have := h.low (show n < 2 by omega)
    rw [usd_eq, Bool.or_eq_false_iff] at this
    simp [q, this.2]
end
section
variable {l : List Pn}
end
end Go.Proofs.YtjopnhhdemfniaaGreatDoor
namespace Go.Proofs.YtjopnhhdemfniaaGreatDoor
theorem trn_get (f : UInt8 → UInt8) (hf : ∀ x, f (f x) = f x) : ∀ (ns : List Int) (u : Us) (i : Nat), i < u.length → (trn f u ns).getD i 0 = if (ns.any fun z => decide (z.toNat = i)) = true then f (u.getD i 0) else u.getD i 0
  | [], _, _, _ => by simp [trn]
  | z :: ns, u, i, hi => by
    have e : trn f u (z :: ns) = trn f (u.set z.toNat (f (u.getD z.toNat 0))) ns := rfl
    rw [e, trn_get f hf ns _ i (by simpa using hi), List.any_cons]
    by_cases r : z.toNat = i
    · subst r
      have e1 : (u.set z.toNat (f (u.getD z.toNat 0))).getD z.toNat 0 = f (u.getD z.toNat 0) := by simp [hi]
      rw [e1, hf]
      simp
    · have e1 : (u.set z.toNat (f (u.getD z.toNat 0))).getD i 0 = u.getD i 0 := by
        simp only [List.getD_eq_getElem?_getD]
        rw [List.getElem?_set_ne r]
      rw [e1]
      simp [r]
theorem rsg_of {ns : List Int} (h : ns.Pairwise (· < ·)) : rsg ns = true := by
  have pw := List.pairwise_iff_getElem.1 h
  unfold rsg rsk
  rw [List.all_eq_true]
  intro k hk
  have hk' := List.mem_range.1 hk
  have h1 : k < ns.length := by omega
  have h2 : k + 1 < ns.length := by omega
  have := pw k (k + 1) h1 h2 (by omega)
  simp [h1, h2]
  exact this
theorem fre_sorted (m : Nat) (ps : List Pg) (l : List Pn) : (fre m ps l).Pairwise (· < ·) := by
  unfold fre
  rw [List.pairwise_map]
  refine List.Pairwise.imp ?_ ((List.pairwise_lt_range).sublist List.filter_sublist)
  intro a b h
  omega
theorem fre_mem {m : Nat} {ps : List Pg} {l : List Pn} {z : Int} (h : z ∈ fre m ps l) : ∃ n : Nat, z = (n : Int) ∧ 2 ≤ n ∧ n < m ∧ usd ps l n = false := by
  unfold fre at h
  obtain ⟨n, hn, rfl⟩ := List.mem_map.1 h
  obtain ⟨h1, h2⟩ := List.mem_filter.1 hn
  simp only [Bool.and_eq_true, decide_eq_true_eq, Bool.not_eq_true'] at h2
  exact ⟨n, rfl, h2.1, List.mem_range.1 h1, h2.2⟩
/-- Pages written behind one another. -/
def ptl (g : Int) (ws : List Wr) (F : List Pg) : List Wr := F.foldl (fun ws x => putW ws x.number.toNat (x.born g).blk) ws
theorem wps_lv (g : Int) : ∀ (F : List Pg) (ws : List Wr) (last : List Bs) (a : Int), (∀ x ∈ F, (x.born g).may = true ∧ 0 ≤ x.number ∧ x.number < last.length) → wps g (Lv ws last a) F = (0, Lv [] (snc last (ptl g ws F) (ptl g ws F).length) (a + F.length + 1))
  | [], ws, last, a, _ => by
    show (syncv _, Ds.sync _) = _
    rw [(lv_sync ws last a).1, (lv_sync ws last a).2]
    simp [ptl]
  | x :: F, ws, last, a, h => by
    obtain ⟨h1, h2, h3⟩ := h x List.mem_cons_self
    obtain ⟨e1, e2⟩ := lv_write ws last a h2 h3 (Pg.blk_len h1)
    unfold wps
    rw [if_neg (by rw [e1]; simp), e2, wps_lv g F _ last (a + 1) (fun y hy => h y (List.mem_cons_of_mem _ hy))]
    have : a + 1 + (F.length : Int) + 1 = a + ((x :: F).length : Int) + 1 := by simp; omega
    rw [this]
    rfl
theorem ptl_srt (g : Int) : ∀ (F : List Pg) (ws : List Wr), Srt ws → Srt (ptl g ws F)
  | [], _, h => h
  | _ :: F, _, h => ptl_srt g F _ (putW_srt h)
theorem ptl_lt (g : Int) (n : Nat) : ∀ (F : List Pg) (ws : List Wr), (∀ x ∈ ws, x.1 < n) → (∀ x ∈ F, x.number.toNat < n) → ∀ y ∈ ptl g ws F, y.1 < n
  | [], _, h, _ => h
  | x :: F, ws, h, hF => ptl_lt g n F _ (fun y hy => by
      rcases putW_mem hy with rfl | q
      · exact hF x List.mem_cons_self
      · exact h y q) (fun y hy => hF y (List.mem_cons_of_mem _ hy))
theorem ptl_off (g : Int) (n : Nat) : ∀ (F : List Pg) (ws : List Wr), (∀ x ∈ F, x.number.toNat ≠ n) → fnd (ptl g ws F) n = fnd ws n
  | [], _, _ => rfl
  | x :: F, ws, h => by
    show fnd (ptl g (putW ws _ _) F) n = _
    rw [ptl_off g n F _ (fun y hy => h y (List.mem_cons_of_mem _ hy)), putW_fnd, if_neg (Ne.symm (h x List.mem_cons_self))]
theorem ptl_on (g : Int) : ∀ (F : List Pg) (ws : List Wr), F.Pairwise (fun x y => x.number.toNat ≠ y.number.toNat) → ∀ x ∈ F, fnd (ptl g ws F) x.number.toNat = some (x.born g).blk
  | [], _, _, _, h => by cases h
  | x :: F, ws, hp, y, hy => by
    obtain ⟨h1, h2⟩ := List.pairwise_cons.1 hp
    show fnd (ptl g (putW ws _ _) F) _ = _
    rcases List.mem_cons.1 hy with rfl | q
    · rw [ptl_off g _ F _ (fun z hz => Ne.symm (h1 z hz)), putW_fnd, if_pos rfl]
    · exact ptl_on g F _ h2 y q
section
variable {m : Nat} {gen root : Int} {ps : List Pg} {l : List Pn} {last : List Bs} {p : Pr}
theorem Hds.prok (h : Hds m gen root ps l last p) (a : Int) : Prok (Lv [] last a) p := by
  have lw : ∀ n, n < 2 → p.use.getD n 0 &&& 1 = 0 := fun n hn => by
    have hm8 := h.m8
    have hu := h.low hn
    rw [usd_eq, Bool.or_eq_false_iff] at hu
    rw [h.use n (by omega)]
    have := uw_rcb (mem ps n) (pbn l n)
    rw [hu.1] at this ⊢
    unfold rcb at this
    simpa using this
  exact ⟨h.hm, by show p.h.blocks = (last.length : Int); rw [h.hb, h.dl], by show p.use.length = last.length; rw [h.ul, h.dl], lw 0 (by omega), lw 1 (by omega)⟩
/-- What a commit of the law's makes. -/
theorem Hds.commit (h : Hds m gen root ps l last p) (a : Int) (F : List Pg) (root' : Int) (nt : Bs) (keep : Bool) (ps' : List Pg) (hgen : gen ≤ 1000000000000)
    (f1 : F.all Pg.fresh = true) (f2 : F.map Pg.number = (fre m ps l).take F.length) (f3 : ∀ x ∈ F, x.birth = gen + 1) (hnt : nt.length = 16)
    (f5 : ∀ x ∈ F, ∀ z ∈ x.links, ∃ y ∈ F ++ (if keep then ps else []), y.number = z) (f6 : root' = 0 ∨ ∃ y ∈ F ++ (if keep then ps else []), y.number = root')
    (f7 : ps'.Perm (F ++ (if keep then ps else []))) (f8 : ps'.Pairwise (fun x y => x.number < y.number)) :
    ∃ last' p', cmr (Lv [] last a) p F root' nt (if keep then [] else ps.map Pg.number) = (0, Lv [] last' (a + F.length + 3), p') ∧ Hds m (gen + 1) root' ps' l last' p' ∧ (∀ n, n < m → usd ps l n = true → last'.getD n [] = last.getD n []) := by
  have hm8 := h.m8
  have fnum : ∀ x ∈ F, ∃ n : Nat, x.number = (n : Int) ∧ 2 ≤ n ∧ n < m ∧ usd ps l n = false := fun x hx => by
    have : x.number ∈ (fre m ps l).take F.length := by rw [← f2]; exact List.mem_map_of_mem hx
    exact fre_mem (List.mem_of_mem_take this)
  have fsort : (F.map Pg.number).Pairwise (· < ·) := by rw [f2]; exact (fre_sorted m ps l).sublist (List.take_sublist _ _)
  have fpw : F.Pairwise (fun x y => x.number < y.number) := List.pairwise_map.1 fsort
  have ffr : ∀ x ∈ F, x.fresh = true := List.all_eq_true.1 f1
  have fmay : ∀ x ∈ F, (x.born (gen + 1)).may = true := fun x hx => by
    have hf := ffr x hx
    have hg := h.gn
    unfold Pg.may Pg.born
    have : isGn (gen + 1) = true := by simp [isGn]; omega
    show (isGn (gen + 1) && Pg.fresh x) = true
    rw [this, hf]
    rfl
  have fborn : ∀ x ∈ F, x.born (gen + 1) = x := fun x hx => by
    have := f3 x hx
    cases x
    simp_all [Pg.born]
  -- what is used then
  have hmemF : ∀ n : Nat, ((F.map Pg.number).any fun z => decide (z.toNat = n)) = mem F n := any_mem (fun x hx => by obtain ⟨k, e, _⟩ := fnum x hx; omega)
  have hgone : ∀ n : Nat, (((if keep then [] else ps.map Pg.number) : List Int).any fun z => decide (z.toNat = n)) = (!keep && mem ps n) := fun n => by
    cases keep
    · simpa using any_mem h.ps2 n
    · rfl
  have hS : ∀ n : Nat, mem (F ++ (if keep then ps else [])) n = (mem F n || (keep && mem ps n)) := fun n => by
    unfold mem
    rw [List.any_append]
    cases keep <;> simp
  have hps' : ∀ n : Nat, mem ps' n = mem (F ++ (if keep then ps else [])) n := fun n => by
    rw [Bool.eq_iff_iff, mem_iff, mem_iff]
    constructor
    · rintro ⟨x, hx, e⟩; exact ⟨x, f7.mem_iff.1 hx, e⟩
    · rintro ⟨x, hx, e⟩; exact ⟨x, f7.mem_iff.2 hx, e⟩
  have hal : (after p.use (F.map Pg.number) (if keep then [] else ps.map Pg.number)).length = m := by
    unfold after
    rw [trn_len, trn_len, h.ul]
  have haft : ∀ n, n < m → (after p.use (F.map Pg.number) (if keep then [] else ps.map Pg.number)).getD n 0 = uw (mem ps' n) (pbn l n) := fun n hn => by
    unfold after
    rw [trn_get (· ||| 1) (fun x => by show x ||| 1 ||| 1 = x ||| 1; rw [UInt8.or_assoc]; rfl) _ _ _ (by rw [trn_len, h.ul]; exact hn), trn_get (· &&& 254) (fun x => by show x &&& 254 &&& 254 = x &&& 254; rw [UInt8.and_assoc]; rfl) _ _ _ (by rw [h.ul]; exact hn), hmemF, hgone, h.use n hn, hps', hS]
    have e1 : ∀ b0, uw b0 (pbn l n) ||| 1 = uw true (pbn l n) := fun b0 => uv_or1 _ _ _ _ _
    have e2 : ∀ b0, uw b0 (pbn l n) &&& 254 = uw false (pbn l n) := fun b0 => uv_and254 _ _ _ _ _
    cases keep <;> cases mem F n <;> cases mem ps n <;> simp [e1, e2]
  have hhas : ∀ n : Nat, n < m → hasv (after p.use (F.map Pg.number) (if keep then [] else ps.map Pg.number)) (n : Int) 1 = mem ps' n := fun n hn => by
    unfold hasv
    rw [show ((n : Int)).toNat = n by omega, haft n hn, show (uw (mem ps' n) (pbn l n) &&& 1 != 0) = rcb (uw (mem ps' n) (pbn l n)) from rfl, uw_rcb, hal]
    simp [hn]
  have hin : ∀ y ∈ F ++ (if keep then ps else []), ∃ n : Nat, y.number = (n : Int) ∧ n < m ∧ 2 ≤ n ∧ mem ps' n = true := fun y hy => by
    have hy' := f7.mem_iff.2 hy
    rcases List.mem_append.1 hy with q | q
    · obtain ⟨k, e, k2, k3, _⟩ := fnum y q
      exact ⟨k, e, k3, k2, mem_iff.2 ⟨y, hy', e⟩⟩
    · have hyp : y ∈ ps := by cases keep; simp at q; exact q
      obtain ⟨_, b2, b3, _⟩ := h.pg y (.inl hyp)
      exact ⟨y.number.toNat, by omega, by omega, by omega, mem_iff.2 ⟨y, hy', by omega⟩⟩
  have hlast' : ∀ x ∈ F, (x.born (gen + 1)).may = true ∧ 0 ≤ x.number ∧ x.number < last.length := fun x hx => by
    obtain ⟨k, e, k2, k3, _⟩ := fnum x hx
    exact ⟨fmay x hx, by omega, by rw [h.dl]; omega⟩
  -- the head
  have hhm : (nxh p root' nt).may = true := by
    have hg := h.gn
    have hgg : isGn (p.h.gen + 1) = true := by rw [h.hg]; simp [isGn]; omega
    unfold nxh Hd.may
    simp only [hgg, h.hb, hnt, Bool.true_and]
    have r1 : decide (root' = 0) = true ∨ (decide (2 ≤ root') && decide (root' < (m : Int))) = true := by
      rcases f6 with q | ⟨y, hy, e⟩
      · exact .inl (by simpa using q)
      · obtain ⟨k, e2, k3, k2, _⟩ := hin y hy
        right
        simp
        omega
    have r2 : (decide ((8 : Int) ≤ (m : Int)) && decide ((m : Int) ≤ 4096)) = true := by simp; omega
    rcases r1 with q | q <;> simp [q, r2]
  obtain ⟨L1, hL1⟩ : ∃ L1, L1 = snc last (ptl (gen + 1) [] F) (ptl (gen + 1) [] F).length := ⟨_, rfl⟩
  have s0 : Srt ([] : List Wr) := fun i j _ hj => absurd hj (by simp)
  have lt1 : ∀ y ∈ ptl (gen + 1) [] F, y.1 < last.length := ptl_lt _ _ F [] (fun x hx => by cases hx) (fun x hx => by have := hlast' x hx; omega)
  have l1len : L1.length = last.length := by rw [hL1, snc_len]
  have c1 : ∀ n, L1.getD n [] = (fnd (ptl (gen + 1) [] F) n).getD (last.getD n []) := fun n => by rw [hL1]; exact lv_cur_sync _ _ (ptl_srt _ F [] s0) lt1 n
  have hgm : (nxh p root' nt).gen = gen + 1 := by show p.h.gen + 1 = _; rw [h.hg]
  have hw1 : wps (nxh p root' nt).gen (Lv [] last a) F = (0, Lv [] L1 (a + F.length + 1)) := by rw [hgm, wps_lv _ F [] last a hlast', hL1]
  obtain ⟨b, hb⟩ : ∃ b : Nat, (nxh p root' nt).gen % 2 = (b : Int) ∧ b < 2 := ⟨((nxh p root' nt).gen % 2).toNat, by omega⟩
  have hbl : (nxh p root' nt).blk.length = 512 := Hd.blk_len (Hd.may_note hhm)
  obtain ⟨e1, e2⟩ := lv_write [] L1 (a + F.length + 1) (b := (nxh p root' nt).gen % 2) (by omega) (by rw [l1len, h.dl]; omega) hbl
  obtain ⟨e3, e4⟩ := lv_sync (putW [] ((nxh p root' nt).gen % 2).toNat (nxh p root' nt).blk) L1 (a + F.length + 1 + 1)
  have htv : trv (Lv [] last a) F (nxh p root' nt) = 0 := by
    unfold trv
    rw [hw1, if_neg (by simp)]
    unfold wrhv
    rw [if_neg (by rw [e1]; simp), e2, e3]
  have htd : trd (Lv [] last a) F (nxh p root' nt) = Lv [] (L1.set b (nxh p root' nt).blk) (a + F.length + 3) := by
    unfold trd
    rw [hw1, if_neg (by simp)]
    unfold wrhd
    rw [if_neg (by rw [e1]; simp), e2, e4]
    have : ((nxh p root' nt).gen % 2).toNat = b := by omega
    rw [this]
    have ea : a + (F.length : Int) + 1 + 1 + 1 = a + (F.length : Int) + 3 := by omega
    rw [ea]
    rfl
  have hclo : clo (after p.use (F.map Pg.number) (if keep then [] else ps.map Pg.number)) F root' = true := by
    unfold clo
    rw [Bool.and_eq_true, Bool.or_eq_true]
    refine ⟨?_, List.all_eq_true.2 (fun x hx => ?_)⟩
    · rcases f6 with q | ⟨y, hy, e⟩
      · exact .inl (by simpa using q)
      · obtain ⟨k, e2, k3, k2, hm⟩ := hin y hy
        right
        rw [← e, e2, hhas k k3]
        exact hm
    · unfold lkb
      rw [List.all_eq_true]
      intro z hz
      obtain ⟨y, hy, e⟩ := f5 x hx z hz
      obtain ⟨k, e2, k3, k2, hm⟩ := hin y hy
      rw [← e, e2, hhas k k3]
      exact hm
  have hgoneS : (if keep then [] else ps.map Pg.number).Pairwise (· < ·) := by
    cases keep
    · exact List.pairwise_map.2 h.srt
    · exact List.Pairwise.nil
  have hgall : (if keep then [] else ps.map Pg.number).all (hasv p.use · 1) = true := by
    rw [List.all_eq_true]
    intro z hz
    cases keep
    · obtain ⟨x, hx, rfl⟩ := List.mem_map.1 hz
      obtain ⟨_, b2, b3, _⟩ := h.pg x (.inl hx)
      obtain ⟨n, hn⟩ : ∃ n : Nat, x.number = (n : Int) := ⟨x.number.toNat, by omega⟩
      rw [hn, h.has1 (by omega)]
      exact mem_iff.2 ⟨x, hx, hn⟩
    · simp at hz
  refine ⟨L1.set b (nxh p root' nt).blk, { p with h := nxh p root' nt, use := after p.use (F.map Pg.number) (if keep then [] else ps.map Pg.number) }, ?_, ?_, ?_⟩
  · rw [cmr_eq, if_neg (by omega), f1, rsg_of fsort, rsg_of hgoneS, if_neg (by simp), if_neg (by rw [h.ask0]; simp), h.ask, h.free, hgall, if_neg (by simp [f2]), hclo, if_neg (by simp), if_neg (by rw [h.hg]; omega), htv, htd, if_pos rfl]
  · have cL : ∀ n, 2 ≤ n → (L1.set b (nxh p root' nt).blk).getD n [] = L1.getD n [] := fun n hn => by
      simp only [List.getD_eq_getElem?_getD]
      rw [List.getElem?_set_ne (by omega)]
    refine ⟨by rw [List.length_set, l1len, h.dl], fun x hx => ?_, hal, h.m8, h.db, hgm, rfl, h.hb, hhm, by have := h.gn; omega, haft, h.pins, h.pl, h.pk, fun x hx => ?_, f8, ?_⟩
    · rcases List.mem_or_eq_of_mem_set hx with q | rfl
      · rw [hL1] at q
        refine snc_sz h.d5 (fun y hy => ⟨lt1 y hy, ?_⟩) _ (Nat.le_refl _) x q
        -- every write has a page's bytes
        have key : ∀ (F : List Pg) (ws : List Wr), (∀ x ∈ ws, x.2.length = 512) → (∀ x ∈ F, (x.born (gen + 1)).may = true) → ∀ y ∈ ptl (gen + 1) ws F, y.2.length = 512 := by
          intro F
          induction F with
          | nil => intro ws h1 _; exact h1
          | cons z F ih =>
            intro ws h1 h2
            refine ih _ (fun y hy => ?_) (fun y hy => h2 y (List.mem_cons_of_mem _ hy))
            rcases putW_mem hy with rfl | q
            · exact Pg.blk_len (h2 z List.mem_cons_self)
            · exact h1 y q
        exact key F [] (fun x hx => by cases hx) fmay y hy
      · exact hbl
    · have hold : ∀ x, (x ∈ ps ∨ ∃ y ∈ l, x ∈ y.2) → x.may = true ∧ 2 ≤ x.number ∧ x.number < m ∧ (L1.set b (nxh p root' nt).blk).getD x.number.toNat [] = x.blk := fun x hx => by
        obtain ⟨a1, a2, a3, a4⟩ := h.pg x hx
        refine ⟨a1, a2, a3, ?_⟩
        rw [cL _ (by omega), c1, ptl_off _ _ F [] (fun y hy e => ?_)]
        · exact a4
        · obtain ⟨k, e2, _, _, hu⟩ := fnum y hy
          have : usd ps l k = true := usd_of x k (by omega) h.pk hx
          rw [hu] at this
          cases this
      rcases hx with hx | hx
      · rcases List.mem_append.1 (f7.mem_iff.1 hx) with q | q
        · obtain ⟨k, e2, k2, k3, _⟩ := fnum x q
          have hmx := fmay x q
          rw [fborn x q] at hmx
          refine ⟨hmx, by omega, by omega, ?_⟩
          rw [cL _ (by omega), c1, ptl_on _ F [] (fpw.imp_of_mem (fun {u v} hu hv huv e => by
            obtain ⟨k1, a1, _⟩ := fnum u hu
            obtain ⟨k2, a2, _⟩ := fnum v hv
            omega)) x q, fborn x q]
          rfl
        · have hxp : x ∈ ps := by cases keep; simp at q; exact q
          exact hold x (.inl hxp)
      · exact hold x (.inr hx)
    · rcases f6 with q | ⟨y, hy, e⟩
      · exact .inl q
      · exact .inr ⟨y, f7.mem_iff.2 hy, e⟩
  · intro n hn hu
    have h2 : 2 ≤ n := by
      by_cases q : 2 ≤ n
      · exact q
      · rw [h.low (by omega)] at hu; cases hu
    simp only [List.getD_eq_getElem?_getD]
    rw [List.getElem?_set_ne (by omega)]
    have := c1 n
    simp only [List.getD_eq_getElem?_getD] at this
    rw [this, ptl_off _ _ F [] (fun y hy e => ?_)]
    · rfl
    · obtain ⟨k, e2, _, _, hu2⟩ := fnum y hy
      have : k = n := by omega
      subst this
      rw [hu2] at hu
      cases hu
end
end Go.Proofs.YtjopnhhdemfniaaGreatDoor
/- Pure: what a turn of the law's makes may be committed. -/
namespace Go.Proofs.YtjopnhhdemfniaaGreatDoor
open Go.RowKit
set_option maxHeartbeats 4000000
def bornP (g : Int) (x : Pg) : Pg := { x with birth := g }
theorem leaf_fresh (n c g : Int) (hn : isPg n = true) : (bornP g (leafv n c)).fresh = true := by
  have h3 := pkv_lt c 3 (by omega)
  have h6 := pkv_lt c 60 (by omega)
  unfold bornP leafv Pg.fresh
  simp only [List.length_nil, List.all_nil, Bool.and_true, hn]
  simp [lfb]
  omega
/-- The pages that are made. -/
theorem frs_low (how : Int) (fr : List Int) (root c g : Int) (h : pkv how 5 ≤ 3) : frs how fr root c g = ((List.range (fr.length - 1)).map fun i => bornP g (leafv (fr.getD i 0) (c + (i : Int)))) ++ [bornP g (rootv fr (if pkv how 5 ≤ 1 then root else 0) c)] := by
  unfold frs lvs
  by_cases q : pkv how 5 ≤ 1
  · rw [if_pos q, if_pos q, List.map_map]; rfl
  · rw [if_neg q, if_neg q, if_pos h, List.map_map]; rfl
theorem frs_high (how : Int) (fr : List Int) (root c g : Int) (h : ¬ pkv how 5 ≤ 3) : frs how fr root c g = [] := by
  unfold frs
  rw [if_neg (by omega), if_neg h]
theorem frs_num (how : Int) (fr : List Int) (root c g : Int) (h : pkv how 5 ≤ 3) (h1 : 0 < fr.length) : (frs how fr root c g).map Pg.number = fr := by
  rw [frs_low _ _ _ _ _ h, List.map_append, List.map_map]
  apply List.ext_getElem
  · simp; omega
  · intro i hi hj
    by_cases q : i < fr.length - 1
    · rw [List.getElem_append_left (by simpa using q)]
      simp [bornP, leafv, hj]
    · have e : i = fr.length - 1 := by omega
      rw [List.getElem_append_right (by simp; omega)]
      subst e
      simp [bornP, rootv, leafv, List.getElem?_eq_getElem hj]
theorem frs_birth (how : Int) (fr : List Int) (root c g : Int) : ∀ x ∈ frs how fr root c g, x.birth = g := by
  intro x hx
  by_cases h : pkv how 5 ≤ 3
  · rw [frs_low _ _ _ _ _ h] at hx
    rcases List.mem_append.1 hx with q | q
    · obtain ⟨i, _, rfl⟩ := List.mem_map.1 q
      rfl
    · rw [List.mem_singleton.1 q]
      rfl
  · rw [frs_high _ _ _ _ _ h] at hx
    cases hx
variable {m : Nat} {gen root : Int} {ps : List Pg} {l : List Pn} {last : List Bs} {p : Pr}
theorem frs_mem {how : Int} {fr : List Int} {c g : Int} {r : Int} {x : Pg} (h1 : 0 < fr.length) (hx : x ∈ frs how fr r c g) : pkv how 5 ≤ 3 ∧ ((∃ i, i < fr.length ∧ x = bornP g (leafv (fr.getD i 0) (c + (i : Int)))) ∨ x = bornP g (rootv fr (if pkv how 5 ≤ 1 then r else 0) c)) := by
  by_cases h : pkv how 5 ≤ 3
  · refine ⟨h, ?_⟩
    rw [frs_low _ _ _ _ _ h] at hx
    rcases List.mem_append.1 hx with q | q
    · obtain ⟨i, hi, rfl⟩ := List.mem_map.1 q
      exact .inl ⟨i, by have := List.mem_range.1 hi; omega, rfl⟩
    · exact .inr (List.mem_singleton.1 q)
  · rw [frs_high _ _ _ _ _ h] at hx
    cases hx
theorem gns_low {how : Int} {ps : List Pg} (h : pkv how 5 ≤ 1) : gns how ps = [] := by
  unfold gns
  rw [if_neg (by omega)]
theorem gns_four {how : Int} {ps : List Pg} (h : ¬ pkv how 5 ≤ 3) : gns how ps = [] := by
  unfold gns
  rw [if_neg (by omega)]
theorem gns_ne {how : Int} {ps : List Pg} (h : ¬ gns how ps = []) : gns how ps = ps.map Pg.number := by
  unfold gns at *
  split
  · rfl
  · rename_i q
    rw [if_neg q] at h
    exact absurd rfl h
theorem Hds.rtp (h : Hds m gen root ps l last p) (hr : root ≠ 0) : isPg root = true := by
  rcases h.rt with q | ⟨x, hx, e⟩
  · exact absurd q hr
  · have := h.pg x (.inl hx)
    have h8 := h.m8
    simp [isPg]
    omega
theorem Hds.turn (h : Hds m gen root ps l last p) (a how c : Int) (k : Nat) (h1 : 1 ≤ k) (hk5 : k ≤ 5) (hkf : k ≤ (fre m ps l).length) (hgen : gen ≤ 1000000000000) (ps' : List Pg) (fr : List Int) (hfr : fr = (fre m ps l).take k) (rt : Int) (hrt : rt = if pkv how 5 ≤ 3 then fr.getD (fr.length - 1) 0 else root)
    (hp : ps'.Perm (if gns how ps = [] then frs how fr root c (gen + 1) ++ ps else frs how fr root c (gen + 1))) (hs : ps'.Pairwise (fun x y => x.number ≤ y.number)) :
    ∃ last' p', cmr (Lv [] last a) p (frs how fr root c (gen + 1)) rt (nte c) (gns how ps) = (0, Lv [] last' (a + (frs how fr root c (gen + 1)).length + 3), p') ∧ Hds m (gen + 1) rt ps' l last' p' ∧ (∀ n, n < m → usd ps l n = true → last'.getD n [] = last.getD n []) := by
  have hfl : fr.length = k := by rw [hfr, List.length_take]; omega
  have h8 := h.m8
  have hin : ∀ z ∈ fr, ∃ n : Nat, z = (n : Int) ∧ 2 ≤ n ∧ n < m ∧ usd ps l n = false := fun z hz => by
    rw [hfr] at hz
    exact fre_mem (List.mem_of_mem_take hz)
  have hpg : ∀ z ∈ fr, isPg z = true := fun z hz => by
    obtain ⟨n, rfl, q1, q2, _⟩ := hin z hz
    simp [isPg]
    omega
  have hpi : ∀ i, i < fr.length → isPg (fr.getD i 0) = true := fun i hi => hpg _ (getD_in fr 0 i hi)
  have key := h.commit a (frs how fr root c (gen + 1)) rt (nte c) (decide (gns how ps = [])) ps' hgen ?_ ?_ (frs_birth _ _ _ _ _) (nte_len c) ?_ ?_ ?_ ?_
  · have e : (if decide (gns how ps = []) = true then [] else ps.map Pg.number) = gns how ps := by
      by_cases q : gns how ps = []
      · rw [if_pos (by simpa using q), q]
      · rw [if_neg (by simpa using q), gns_ne q]
    rw [e] at key
    exact key
  · rw [List.all_eq_true]
    intro x hx
    obtain ⟨hl, ⟨i, hi, rfl⟩ | rfl⟩ := frs_mem (by omega) hx
    · exact leaf_fresh _ _ _ (hpi i hi)
    · have hb := pkv_lt (c + (fr.length : Int)) 60 (by omega)
      have h3 := pkv_lt (c + (fr.length : Int)) 3 (by omega)
      have hroot := hpi (fr.length - 1) (by omega)
      have hlk : (lks0 fr (if pkv how 5 ≤ 1 then root else 0) (fr.length - 1)).all isPg = true := by
        unfold lks0 old0
        rw [List.all_append, Bool.and_eq_true, List.all_eq_true, List.all_eq_true]
        refine ⟨fun z hz => ?_, fun z hz => hpg z (List.mem_of_mem_take hz)⟩
        by_cases q1 : pkv how 5 ≤ 1
        · rw [if_pos q1] at hz
          by_cases q : root = 0
          · rw [if_pos q] at hz; cases hz
          · rw [if_neg q] at hz
            rw [List.mem_singleton.1 hz]
            exact h.rtp q
        · rw [if_neg q1, if_pos rfl] at hz
          cases hz
      have hll := lks0_len fr (if pkv how 5 ≤ 1 then root else 0) (fr.length - 1)
      unfold bornP rootv leafv Pg.fresh
      simp only [hlk, hroot, Bool.and_true]
      simp [lfb]
      omega
  · by_cases hl : pkv how 5 ≤ 3
    · rw [frs_num _ _ _ _ _ hl (by omega)]
      have : (frs how fr root c (gen + 1)).length = k := by
        have := congrArg List.length (frs_num how fr root c (gen + 1) hl (by omega))
        rw [List.length_map] at this
        omega
      rw [this, hfr]
    · rw [frs_high _ _ _ _ _ hl]
      rfl
  · intro x hx z hz
    obtain ⟨hl, ⟨i, hi, rfl⟩ | rfl⟩ := frs_mem (by omega) hx
    · cases hz
    · have hz' : z ∈ old0 (if pkv how 5 ≤ 1 then root else 0) ++ fr.take (fr.length - 1) := hz
      rcases List.mem_append.1 hz' with q | q
      · unfold old0 at q
        by_cases q1 : pkv how 5 ≤ 1
        · rw [if_pos q1] at q
          by_cases q0 : root = 0
          · rw [if_pos q0] at q; cases q
          · rw [if_neg q0] at q
            rcases h.rt with e | ⟨y, hy, e⟩
            · exact absurd e q0
            · refine ⟨y, List.mem_append.2 (.inr ?_), by rw [List.mem_singleton.1 q]; exact e⟩
              rw [if_pos (by simpa using gns_low q1)]
              exact hy
        · rw [if_neg q1, if_pos rfl] at q
          cases q
      · have : z ∈ (frs how fr root c (gen + 1)).map Pg.number := by
          rw [frs_num _ _ _ _ _ hl (by omega)]
          exact List.mem_of_mem_take q
        obtain ⟨y, hy, e⟩ := List.mem_map.1 this
        exact ⟨y, List.mem_append.2 (.inl hy), e⟩
  · by_cases hl : pkv how 5 ≤ 3
    · right
      have : rt ∈ (frs how fr root c (gen + 1)).map Pg.number := by
        rw [frs_num _ _ _ _ _ hl (by omega), hrt, if_pos hl]
        exact getD_in fr 0 _ (by omega)
      obtain ⟨y, hy, e⟩ := List.mem_map.1 this
      exact ⟨y, List.mem_append.2 (.inl hy), e⟩
    · rw [if_neg hl] at hrt
      rw [hrt]
      refine h.rt.imp id (fun ⟨x, hx, e⟩ => ⟨x, List.mem_append.2 (.inr ?_), e⟩)
      rw [if_pos (by simpa using gns_four hl)]
      exact hx
  · by_cases q : gns how ps = []
    · rw [if_pos q] at hp
      rw [if_pos (by simpa using q)]
      exact hp
    · rw [if_neg q] at hp
      rw [if_neg (by simpa using q), List.append_nil]
      exact hp
  · have hF : (frs how fr root c (gen + 1)).Pairwise (fun x y => x.number ≠ y.number) := by
      by_cases hl : pkv how 5 ≤ 3
      · have e := frs_num how fr root c (gen + 1) hl (by omega)
        have : ((frs how fr root c (gen + 1)).map Pg.number).Pairwise (· < ·) := by
          rw [e, hfr]
          exact (fre_sorted m ps l).sublist (List.take_sublist _ _)
        exact (List.pairwise_map.1 this).imp (fun q => by omega)
      · rw [frs_high _ _ _ _ _ hl]
        exact .nil
    have hN : (if gns how ps = [] then frs how fr root c (gen + 1) ++ ps else frs how fr root c (gen + 1)).Pairwise (fun x y => x.number ≠ y.number) := by
      split
      · rw [List.pairwise_append]
        refine ⟨hF, h.srt.imp (fun q => by omega), fun x hx y hy e => ?_⟩
        obtain ⟨hl, _⟩ := frs_mem (by omega) hx
        have hm := List.mem_map_of_mem (f := Pg.number) hx
        rw [frs_num _ _ _ _ _ hl (by omega)] at hm
        obtain ⟨n, e2, _, _, hu⟩ := hin _ hm
        have := usd_of (ps := ps) (l := l) y n (by rw [← e]; exact e2) h.pk (.inl hy)
        rw [hu] at this
        cases this
      · exact hF
    have hN' := (hp.pairwise_iff (fun {x y} (q : x.number ≠ y.number) => Ne.symm q)).2 hN
    exact (hs.and hN').imp (fun ⟨q1, q2⟩ => by omega)
end Go.Proofs.YtjopnhhdemfniaaGreatDoor
/- Pure: heads, and what a crash leaves of them. -/
namespace Go.Proofs.YtjopnhhdemfniaaGreatDoor
open Go.RowKit
set_option maxHeartbeats 4000000
theorem phd_64 {s t : Bs} (hs : s.length = 512) (ht : t.length = 512) (e : s.take 64 = t.take 64) : phd s = phd t := by
  cases h : phd s with
  | some x =>
    obtain ⟨_, m, q⟩ := phd_some h
    exact (phd_is ht m (q.trans e)).symm
  | none =>
    cases h2 : phd t with
    | none => rfl
    | some x =>
      obtain ⟨_, m, q⟩ := phd_some h2
      rw [phd_is hs m (q.trans e.symm)] at h
      cases h
theorem phr_64 {s t : Bs} (hs : s.length = 512) (ht : t.length = 512) (e : s.take 64 = t.take 64) : phr s = phr t := by
  unfold phr
  rw [phd_64 hs ht e]
theorem torn_take (a b : Bs) (k : Nat) (ha : a.length = 512) (hb : b.length = 512) : (tornv a b k).take 64 = a.take 64 ∨ (tornv a b k).take 64 = b.take 64 := by
  have e : tornv a b k = sect 0 (if inSet k 0 then b else a) ++ ((List.range' 1 7).flatMap fun s => sect s (if inSet k s then b else a)) := by
    unfold tornv tornK
    rw [show List.range 8 = 0 :: List.range' 1 7 from rfl, List.flatMap_cons]
  rw [e, List.take_left' (by rw [sect_len _ _ (by split <;> assumption) (by omega)])]
  unfold sect
  split
  · right; simp
  · left; simp
theorem phr_torn (a b : Bs) (k : Nat) (ha : a.length = 512) (hb : b.length = 512) : phr (tornv a b k) = phr a ∨ phr (tornv a b k) = phr b :=
  (torn_take a b k ha hb).imp (fun e => phr_64 (tornv_len a b k ha hb) ha e) (fun e => phr_64 (tornv_len a b k ha hb) hb e)
theorem crs_off (last : List Bs) (ws : List Wr) (st : St) (n : Nat) (h : ∀ x ∈ ws, x.1 ≠ n) : ∀ k, k ≤ ws.length → (crs last ws st k).getD n [] = last.getD n []
  | 0, _ => rfl
  | k + 1, hk => by
    have hx := h _ (mem_getD (z := (0, [])) (show k < ws.length by omega))
    have ih := crs_off last ws st n h k (by omega)
    unfold crs
    simp only
    rw [← ih]
    generalize ws.getD k (0, []) = y at *
    rw [List.getD_eq_getElem?_getD, List.getElem?_set_ne hx, ← List.getD_eq_getElem?_getD]
/-- No head that counts for more stands on this block. -/
def oth (last : List Bs) (m b : Nat) (g : Int) : Prop := ∀ h : Hd, phr (last.getD b []) = (h, 0) → h.blocks = (m : Int) → h.gen % 2 = (b : Int) → h.gen < g
/-- A state stands on a disk. -/
structure Std (m : Nat) (g root : Int) (nt : Bs) (ps : List Pg) (last : List Bs) : Prop where
  dl : last.length = m
  d5 : ∀ x ∈ last, x.length = 512
  m8 : 8 ≤ m ∧ m ≤ 4096
  gn : 1 ≤ g
  hm : (⟨g, root, m, nt⟩ : Hd).may = true
  hd : phr (last.getD (g % 2).toNat []) = (⟨g, root, m, nt⟩, 0)
  ot : oth last m ((g + 1) % 2).toNat g
  pg : ∀ x ∈ ps, x.may = true ∧ 2 ≤ x.number ∧ x.number < m ∧ x.birth ≤ g ∧ last.getD x.number.toNat [] = x.blk
  srt : ps.Pairwise (fun x y => x.number < y.number)
  tr : Tre root ps
theorem Std.nd {m : Nat} {g root : Int} {nt : Bs} {ps : List Pg} {last : List Bs} (h : Std m g root nt ps last) : (ps.map Pg.number).Nodup := by
  rw [List.nodup_iff_pairwise_ne, List.pairwise_map]
  exact h.srt.imp (fun q => by omega)
theorem hon_is {d : Ds} {b : Nat} (hd : d.dead = false) (hb : b < d.last.length) (hw : d.ws = []) : hon d b = ((phr (d.last.getD b [])).1, (phr (d.last.getD b [])).2 == 0 && ((phr (d.last.getD b [])).1.blocks == (d.last.length : Int)) && ((phr (d.last.getD b [])).1.gen % 2 == (b : Int))) := by
  unfold hon hok
  rw [if_pos (by unfold reachv; rw [if_neg (by rw [hd]; simp), if_neg (by omega), if_neg (by omega)])]
  have e : cur d b = d.last.getD b [] := by unfold cur fnd; rw [hw]; rfl
  rw [e]
theorem hct_of {d : Ds} {m : Nat} {g root : Int} {nt : Bs} (hd : d.dead = false) (hw : d.ws = []) (hl : d.last.length = m) (hm : 8 ≤ m) (hg : 1 ≤ g) (h1 : phr (d.last.getD (g % 2).toNat []) = (⟨g, root, m, nt⟩, 0)) (h2 : oth d.last m ((g + 1) % 2).toNat g) : hct d = (⟨g, root, m, nt⟩, true) := by
  have e0 := hon_is (b := 0) hd (by omega) hw
  have e1 := hon_is (b := 1) hd (by omega) hw
  rw [hl] at e0 e1
  unfold oth at h2
  have l1 : lst d 1 = if (hon d 0).2 = true ∧ (0 : Int) < (hon d 0).1.gen then (hon d 0).1 else noHd := rfl
  have l2 : lst d 2 = if (hon d 1).2 = true ∧ (lst d 1).gen < (hon d 1).1.gen then (hon d 1).1 else lst d 1 := rfl
  suffices hl2 : lst d 2 = ⟨g, root, m, nt⟩ by
    unfold hct
    rw [hl2]
    simp
    omega
  rcases (show g % 2 = 0 ∨ g % 2 = 1 by omega) with q | q
  · have q2 : (g + 1) % 2 = 1 := by omega
    rw [q] at h1
    rw [q2] at h2
    change phr (d.last.getD 0 []) = _ at h1
    change ∀ h : Hd, phr (d.last.getD 1 []) = (h, 0) → h.blocks = (m : Int) → h.gen % 2 = ((1 : Nat) : Int) → h.gen < g at h2
    rw [h1] at e0
    have e0' : hon d 0 = (⟨g, root, m, nt⟩, true) := by rw [e0]; simp [q]
    rw [e0', if_pos ⟨rfl, by show (0 : Int) < g; omega⟩] at l1
    rw [l2, l1, if_neg ?_]
    rintro ⟨a1, a2⟩
    rw [e1] at a1 a2
    simp only [Bool.and_eq_true, beq_iff_eq] at a1
    have := h2 (phr (d.last.getD 1 [])).1 (by rw [← a1.1.1]) a1.1.2 a1.2
    simp only at a2
    omega
  · have q2 : (g + 1) % 2 = 0 := by omega
    rw [q] at h1
    rw [q2] at h2
    change phr (d.last.getD 1 []) = _ at h1
    change ∀ h : Hd, phr (d.last.getD 0 []) = (h, 0) → h.blocks = (m : Int) → h.gen % 2 = ((0 : Nat) : Int) → h.gen < g at h2
    rw [h1] at e1
    have e1' : hon d 1 = (⟨g, root, m, nt⟩, true) := by rw [e1]; simp [q]
    have hlt : (lst d 1).gen < g := by
      rw [l1]
      split
      · rename_i a
        rw [e0] at a ⊢
        simp only [Bool.and_eq_true, beq_iff_eq] at a
        exact h2 (phr (d.last.getD 0 [])).1 (by rw [← a.1.1.1]) a.1.1.2 a.1.2
      · show (0 : Int) < g; omega
    rw [l2, e1', if_pos ⟨rfl, hlt⟩]
end Go.Proofs.YtjopnhhdemfniaaGreatDoor
/- Pure: a commit on a disk that may die. -/
namespace Go.Proofs.YtjopnhhdemfniaaGreatDoor
open Go.RowKit
set_option maxHeartbeats 4000000
theorem wps_or (g : Int) : ∀ (F : List Pg) (ws : List Wr) (last : List Bs) (f a : Int), 0 ≤ f → (∀ x ∈ F, (x.born g).may = true ∧ 0 ≤ x.number ∧ x.number < last.length) →
    (∃ f' a', wps g ⟨ws, last, f, false, a⟩ F = (0, ⟨[], snc last (ptl g ws F) (ptl g ws F).length, f', false, a'⟩) ∧ 0 ≤ f' ∧ a ≤ a' ∧ a' ≤ a + F.length + 1) ∨
    (∃ ws' f' a', wps g ⟨ws, last, f, false, a⟩ F = (2, ⟨ws', last, f', true, a'⟩) ∧ (∀ y ∈ ws', y ∈ ws ∨ ∃ x ∈ F, y = (x.number.toNat, (x.born g).blk)) ∧ a ≤ a' ∧ a' ≤ a + F.length + 1)
  | [], ws, last, f, a, hf, _ => by
    by_cases h1 : f = 1
    · subst h1
      refine .inr ⟨ws, 1, a, ?_, fun y hy => .inl hy, by omega, by simp; omega⟩
      simp [wps, syncv, Ds.sync, actv, Ds.act]
    · refine .inl ⟨max (f - 1) 0, a + 1, ?_, by omega, by omega, by simp⟩
      simp [wps, syncv, Ds.sync, actv, Ds.act, h1, ptl]
  | x :: F, ws, last, f, a, hf, h => by
    obtain ⟨b1, b2, b3⟩ := h x List.mem_cons_self
    have hl := Pg.blk_len b1
    have hr : reachv ⟨ws, last, f, false, a⟩ x.number = 0 := by
      unfold reachv
      rw [if_neg (by simp), if_neg (by omega), if_neg (by show ¬ (last.length : Int) ≤ x.number; omega)]
    by_cases h1 : f = 1
    · subst h1
      have hw : writev ⟨ws, last, 1, false, a⟩ x.number (x.born g).blk = 2 := by
        unfold writev
        rw [if_neg (by omega), if_neg (by rw [hr]; simp)]
        rfl
      have hd : Ds.write ⟨ws, last, 1, false, a⟩ x.number (x.born g).blk = ⟨ws, last, 1, true, a⟩ := by
        unfold Ds.write
        rw [if_neg (by omega), if_neg (by rw [hr]; simp), if_pos (by simp [actv])]
        rfl
      refine .inr ⟨ws, 1, a, ?_, fun y hy => .inl hy, by omega, by simp; omega⟩
      unfold wps
      rw [hw, if_pos (by simp), hd]
    · have hw : writev ⟨ws, last, f, false, a⟩ x.number (x.born g).blk = 0 := by
        unfold writev
        rw [if_neg (by omega), if_neg (by rw [hr]; simp)]
        simp [actv, h1]
      have hd : Ds.write ⟨ws, last, f, false, a⟩ x.number (x.born g).blk = ⟨putW ws x.number.toNat (x.born g).blk, last, max (f - 1) 0, false, a + 1⟩ := by
        unfold Ds.write
        rw [if_neg (by omega), if_neg (by rw [hr]; simp), if_neg (by simp [actv, h1])]
        simp [Ds.act, h1, Ds.put]
      have e : wps g ⟨ws, last, f, false, a⟩ (x :: F) = wps g ⟨putW ws x.number.toNat (x.born g).blk, last, max (f - 1) 0, false, a + 1⟩ F := by
        conv => lhs; unfold wps
        rw [if_neg (by rw [hw]; simp), hd]
      rw [e]
      rcases wps_or g F (putW ws x.number.toNat (x.born g).blk) last (max (f - 1) 0) (a + 1) (by omega) (fun y hy => h y (List.mem_cons_of_mem _ hy)) with ⟨f', a', e1, e2, e3, e4⟩ | ⟨ws', f', a', e1, e2, e3, e4⟩
      · exact .inl ⟨f', a', e1, e2, by omega, by simp; omega⟩
      · refine .inr ⟨ws', f', a', e1, fun y hy => ?_, by omega, by simp; omega⟩
        rcases e2 y hy with q | ⟨z, hz, q⟩
        · rcases putW_mem q with q | q
          · exact .inr ⟨x, List.mem_cons_self, q⟩
          · exact .inl q
        · exact .inr ⟨z, List.mem_cons_of_mem _ hz, q⟩
theorem wrh_or (h : Hd) (hm : h.may = true) (last : List Bs) (f a : Int) (hf : 0 ≤ f) (h8 : 8 ≤ last.length) :
    (∃ f' a', wrhv ⟨[], last, f, false, a⟩ h = 0 ∧ wrhd ⟨[], last, f, false, a⟩ h = ⟨[], last.set (h.gen % 2).toNat h.blk, f', false, a'⟩ ∧ 0 ≤ f' ∧ a ≤ a' ∧ a' ≤ a + 2) ∨
    (∃ ws' f' a', wrhv ⟨[], last, f, false, a⟩ h = 2 ∧ wrhd ⟨[], last, f, false, a⟩ h = ⟨ws', last, f', true, a'⟩ ∧ (ws' = [] ∨ ws' = [((h.gen % 2).toNat, h.blk)]) ∧ a ≤ a' ∧ a' ≤ a + 2) := by
  have hl : h.blk.length = 512 := Hd.blk_len (Hd.may_note hm)
  have hr : reachv ⟨[], last, f, false, a⟩ (h.gen % 2) = 0 := by
    unfold reachv
    rw [if_neg (by simp), if_neg (by omega), if_neg (by show ¬ (last.length : Int) ≤ h.gen % 2; omega)]
  unfold wrhv wrhd
  by_cases h1 : f = 1
  · subst h1
    have hw : writev ⟨[], last, 1, false, a⟩ (h.gen % 2) h.blk = 2 := by
      unfold writev
      rw [if_neg (by omega), if_neg (by rw [hr]; simp)]
      rfl
    have hd : Ds.write ⟨[], last, 1, false, a⟩ (h.gen % 2) h.blk = ⟨[], last, 1, true, a⟩ := by
      unfold Ds.write
      rw [if_neg (by omega), if_neg (by rw [hr]; simp), if_pos (by simp [actv])]
      rfl
    refine .inr ⟨[], 1, a, ?_, ?_, .inl rfl, by omega, by omega⟩
    · rw [hw, if_pos (by simp)]
    · rw [hw, if_pos (by simp), hd]
  · have hw : writev ⟨[], last, f, false, a⟩ (h.gen % 2) h.blk = 0 := by
      unfold writev
      rw [if_neg (by omega), if_neg (by rw [hr]; simp)]
      simp [actv, h1]
    have hd : Ds.write ⟨[], last, f, false, a⟩ (h.gen % 2) h.blk = ⟨[((h.gen % 2).toNat, h.blk)], last, max (f - 1) 0, false, a + 1⟩ := by
      unfold Ds.write
      rw [if_neg (by omega), if_neg (by rw [hr]; simp), if_neg (by simp [actv, h1])]
      simp [Ds.act, h1, Ds.put, putW]
    rw [hw, if_neg (by simp), if_neg (by simp), hd]
    by_cases h2 : max (f - 1) 0 = 1
    · refine .inr ⟨[((h.gen % 2).toNat, h.blk)], max (f - 1) 0, a + 1, ?_, ?_, .inr rfl, by omega, by omega⟩
      · simp [syncv, actv, h2]
      · simp [Ds.sync, actv, Ds.act, h2]
    · refine .inl ⟨max (max (f - 1) 0 - 1) 0, a + 1 + 1, ?_, ?_, by omega, by omega, by omega⟩
      · simp [syncv, actv, h2]
      · simp [Ds.sync, actv, Ds.act, h2, snc]
end Go.Proofs.YtjopnhhdemfniaaGreatDoor
/- Pure: what a turn of the law's makes names each page once. -/
namespace Go.Proofs.YtjopnhhdemfniaaGreatDoor
open Go.RowKit
set_option maxHeartbeats 4000000
theorem Tre.of_perm {root : Int} {ps ps' : List Pg} (h : Tre root ps) (p : ps'.Perm ps) : Tre root ps' :=
  ⟨((List.Perm.refl _).append (p.flatMap_right Pg.links)).trans (h.perm.trans (p.map Pg.number).symm), fun x hx z hz y hy => h.rank x (p.mem_iff.1 hx) z hz y (p.mem_iff.1 hy)⟩
theorem Tre.mem {root : Int} {ps : List Pg} (h : Tre root ps) : (root ≠ 0 → root ∈ ps.map Pg.number) ∧ ∀ x ∈ ps, ∀ z ∈ x.links, z ∈ ps.map Pg.number :=
  ⟨fun q => h.perm.mem_iff.1 (List.mem_append.2 (.inl (by unfold tgt; rw [if_neg q]; simp))), fun x hx z hz => h.perm.mem_iff.1 (List.mem_append.2 (.inr (List.mem_flatMap.2 ⟨x, hx, hz⟩)))⟩
theorem tre_none : Tre 0 [] := ⟨List.Perm.nil, fun _ hx => nomatch hx⟩
theorem fr_last (fr : List Int) (h : 0 < fr.length) : fr = fr.take (fr.length - 1) ++ [fr.getD (fr.length - 1) 0] := by
  conv => lhs; rw [← List.take_append_drop (fr.length - 1) fr]
  congr 1
  rw [List.drop_eq_getElem_cons (by omega)]
  simp [show fr.length - 1 < fr.length by omega, show fr.length - 1 + 1 = fr.length by omega]
theorem Tre.grow {o : Int} {qs : List Pg} (h : Tre o qs) (fr : List Int) (c g : Int) (h1 : 0 < fr.length) (hs : fr.Pairwise (· < ·)) (hn : ∀ z ∈ fr, 0 < z ∧ z < 5000 ∧ z ∉ qs.map Pg.number) (hq : ∀ x ∈ qs, x.birth ≤ g ∧ x.number < 5000) :
    Tre (fr.getD (fr.length - 1) 0) (((List.range (fr.length - 1)).map fun i => bornP (g + 1) (leafv (fr.getD i 0) (c + (i : Int)))) ++ [bornP (g + 1) (rootv fr o c)] ++ qs) := by
  obtain ⟨rt, hrt⟩ : ∃ rt, fr.getD (fr.length - 1) 0 = rt := ⟨_, rfl⟩
  obtain ⟨A, hA⟩ : ∃ A, fr.take (fr.length - 1) = A := ⟨_, rfl⟩
  have hfr := fr_last fr h1
  rw [hrt, hA] at hfr
  have hrm : rt ∈ fr := by rw [hfr]; simp
  have hlt : ∀ z ∈ A, z < rt := by
    rw [hfr, List.pairwise_append] at hs
    exact fun z hz => hs.2.2 z hz rt (by simp)
  have hlen : A.length = fr.length - 1 := by rw [← hA, List.length_take]; omega
  obtain ⟨Lv, hLv⟩ : ∃ Lv, ((List.range (fr.length - 1)).map fun i => bornP (g + 1) (leafv (fr.getD i 0) (c + (i : Int)))) = Lv := ⟨_, rfl⟩
  have hLl : ∀ x ∈ Lv, x.links = [] ∧ x.birth = g + 1 := by
    intro x hx
    rw [← hLv] at hx
    obtain ⟨i, _, rfl⟩ := List.mem_map.1 hx
    exact ⟨rfl, rfl⟩
  have hLn : Lv.map Pg.number = A := by
    rw [← hLv, ← hA, List.map_map]
    apply List.ext_getElem
    · simp
    · intro i hi hj
      simp at hi hj
      simp [bornP, leafv, show i < fr.length by omega]
  have hLf : Lv.flatMap Pg.links = [] := by
    rw [List.flatMap_eq_nil_iff]
    exact fun x hx => (hLl x hx).1
  obtain ⟨R, hR⟩ : ∃ R, bornP (g + 1) (rootv fr o c) = R := ⟨_, rfl⟩
  have hRn : R.number = rt := by rw [← hR, ← hrt]; rfl
  have hRb : R.birth = g + 1 := by rw [← hR]; rfl
  have hRl : R.links = tgt o ++ A := by rw [← hR, ← hA]; rfl
  have hm := h.mem
  have hrt0 : rt ≠ 0 := by have := hn rt hrm; omega
  have hAm : ∀ z ∈ A, z ∈ fr := fun z hz => by rw [hfr]; exact List.mem_append.2 (.inl hz)
  rw [hrt, hLv, hR]
  clear hLv hR hrt hA
  have hFn : ∀ y ∈ Lv ++ [R], y.number ∈ fr ∧ y.birth = g + 1 := by
    intro y hy
    rcases List.mem_append.1 hy with q | q
    · exact ⟨hAm _ (by rw [← hLn]; exact List.mem_map_of_mem q), (hLl y q).2⟩
    · rw [List.mem_singleton.1 q, hRn]
      exact ⟨hrm, hRb⟩
  refine ⟨?_, ?_⟩
  · have hp := h.perm
    rw [List.perm_iff_count] at hp ⊢
    intro a
    have := hp a
    have et : tgt rt = [rt] := if_neg hrt0
    simp only [et, List.count_append, List.flatMap_append, List.flatMap_cons, List.flatMap_nil, List.map_append, List.map_cons, List.map_nil, hLf, hLn, hRl, hRn, List.count_nil, List.append_nil] at this ⊢
    omega
  · intro x hx z hz y hy e
    rcases List.mem_append.1 hx with q | q
    · rcases List.mem_append.1 q with q | q
      · rw [(hLl x q).1] at hz
        cases hz
      · rw [List.mem_singleton.1 q] at hz ⊢
        rw [hRl] at hz
        unfold rnk
        rw [hRb, hRn]
        have hr := hn rt hrm
        rcases List.mem_append.1 hz with r | r
        · have ho : o ≠ 0 ∧ z = o := by
            unfold tgt at r
            split at r
            · cases r
            · exact ⟨by assumption, List.mem_singleton.1 r⟩
          rcases List.mem_append.1 hy with s | s
          · have h2 := (hn _ (hFn y s).1).2.2
            rw [e, ho.2] at h2
            exact absurd (hm.1 ho.1) h2
          · have := hq y s
            omega
        · rcases List.mem_append.1 hy with s | s
          · have h2 := (hFn y s).2
            have h3 := hlt z r
            omega
          · exact absurd (List.mem_map_of_mem (f := Pg.number) s) (by rw [e]; exact (hn z (hAm z r)).2.2)
    · have hzm := hm.2 x q z hz
      rcases List.mem_append.1 hy with s | s
      · have h2 := (hn _ (hFn y s).1).2.2
        rw [e] at h2
        exact absurd hzm h2
      · exact h.rank x q z hz y s e
theorem tre_next {root : Int} {ps ps' : List Pg} (h : Tre root ps) (how c g : Int) (fr : List Int) (rt : Int) (hrt : rt = if pkv how 5 ≤ 3 then fr.getD (fr.length - 1) 0 else root) (h1 : 0 < fr.length) (hs : fr.Pairwise (· < ·)) (hn : ∀ z ∈ fr, 0 < z ∧ z < 5000 ∧ z ∉ ps.map Pg.number) (hq : ∀ x ∈ ps, x.birth ≤ g ∧ x.number < 5000)
    (hp : ps'.Perm (if gns how ps = [] then frs how fr root c (g + 1) ++ ps else frs how fr root c (g + 1))) : Tre rt ps' := by
  by_cases l3 : pkv how 5 ≤ 3
  · rw [if_pos l3] at hrt
    rw [frs_low _ _ _ _ _ l3] at hp
    subst hrt
    by_cases l1 : pkv how 5 ≤ 1
    · rw [if_pos (gns_low l1), if_pos l1] at hp
      exact (h.grow fr c g h1 hs hn hq).of_perm hp
    · rw [if_neg l1] at hp
      have h0 := tre_none.grow fr c g h1 hs (fun z hz => ⟨(hn z hz).1, (hn z hz).2.1, by simp⟩) (fun x hx => nomatch hx)
      rw [List.append_nil] at h0
      split at hp
      · rename_i e
        have hpe : ps = [] := by
          unfold gns at e
          rw [if_pos (by omega)] at e
          exact List.map_eq_nil_iff.1 e
        rw [hpe, List.append_nil] at hp
        exact h0.of_perm hp
      · exact h0.of_perm hp
  · rw [if_neg l3] at hrt
    subst hrt
    rw [if_pos (gns_four l3), frs_high _ _ _ _ _ l3, List.nil_append] at hp
    exact h.of_perm hp
end Go.Proofs.YtjopnhhdemfniaaGreatDoor
/- A store laid on a new disk of any size. -/
namespace Go.Proofs.YtjopnhhdemfniaaGreatDoor
open Go.RowKit
set_option maxHeartbeats 4000000
def Bz (r : Nat) (a b : Bs) : List Bs := a :: b :: List.replicate r zs
theorem bz_len (r : Nat) (a b : Bs) : (Bz r a b).length = r + 2 := by simp [Bz]
theorem bz_512 {r : Nat} {a b : Bs} (ha : a.length = 512) (hb : b.length = 512) : ∀ x ∈ Bz r a b, x.length = 512 := by
  intro x hx
  simp only [Bz, List.mem_cons, List.mem_replicate] at hx
  rcases hx with rfl | rfl | ⟨_, rfl⟩
  · exact ha
  · exact hb
  · exact zs_len
theorem bz_new (r : Nat) : Ds.new (List.replicate (r + 2) zs) = Lv [] (Bz r zs zs) 0 := rfl
variable {P D : Nat} {vw vl vu : Value} {W : World}
theorem z_new (r : Nat) (h6 : 6 ≤ r ∧ r ≤ 4094) (w : World) : Calls Tryz.prog 33 #[I ((r + 2 : Nat) : Int)] w fun e w' => ∃ D V, e = .returned (.tuple #[ptr D, I 0]) ∧ DAt D (Lv [] (Bz r zs zs) 0) (.slice none 0 0) V w' ∧ (∀ k, Of D (.slice none 0 0) V k → w.heap.size ≤ k) ∧ Below w.heap.size w w' := by
  refine (new_any ((r + 2 : Nat) : Int) w ⟨by omega, by omega⟩).mono ?_
  rintro e w' (⟨q, _⟩ | ⟨_, D, V, h1, h2, h3, h4⟩)
  · simp [mayv] at q
    omega
  · rw [show (((r + 2 : Nat) : Int)).toNat = r + 2 by omega, bz_new] at h2
    exact ⟨D, V, h1, h2, h3, h4⟩
end Go.Proofs.YtjopnhhdemfniaaGreatDoor
