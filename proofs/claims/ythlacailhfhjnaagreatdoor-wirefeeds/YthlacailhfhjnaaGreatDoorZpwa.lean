import Derived.Lib.ItoaNum
import Derived.Lib.AtoiAll
import Derived.Lib.TrimByte
namespace Go.Proofs.YthlacailhfhjnaaGreatDoor
open Go.Lib
abbrev Bs := List UInt8
abbrev Fl := Bs × Bs
/-- What stands ahead of the first such byte, and behind it. -/
def hd (c : UInt8) (p : Bs) : Bs := p.takeWhile (fun x => !(x == c))
def tl (c : UInt8) (p : Bs) : Bs := (p.dropWhile (fun x => !(x == c))).drop 1
def up (c : UInt8) : Bool := decide (65 ≤ c.toNat ∧ c.toNat ≤ 90)
def dgt (c : UInt8) : Bool := decide (48 ≤ c.toNat ∧ c.toNat ≤ 57)
def shn (c : UInt8) : Bool := decide (32 ≤ c.toNat ∧ c.toNat ≤ 126)
def pby (c : UInt8) : Bool := shn c && !(c == 32)
def sgn : Bs := [33, 35, 36, 37, 38, 39, 42, 43, 45, 46, 94, 95, 96, 124, 126]
def nby (c : UInt8) : Bool := decide (97 ≤ c.toNat ∧ c.toNat ≤ 122) || up c || dgt c || sgn.contains c
def meth (s : Bs) : Bool := decide (1 ≤ s.length ∧ s.length ≤ 16) && s.all up
def pth (s : Bs) : Bool := decide (s.length ≤ 200) && s.head? == some 47 && s.all pby
def hnm (s : Bs) : Bool := decide (1 ≤ s.length ∧ s.length ≤ 40) && s.all nby
def hvl (s : Bs) : Bool := s.all shn && !(s.head? == some 32) && !(s.getLast? == some 32)
def low (c : UInt8) : UInt8 := if up c then c + 32 else c
def alk (a b : Bs) : Bool := a.map low == b.map low
/-- Content-Length, Transfer-Encoding, HTTP/1.1. -/
def CL : Bs := [67, 111, 110, 116, 101, 110, 116, 45, 76, 101, 110, 103, 116, 104]
def TE : Bs := [84, 114, 97, 110, 115, 102, 101, 114, 45, 69, 110, 99, 111, 100, 105, 110, 103]
def vers : Bs := [72, 84, 84, 80, 47, 49, 46, 49]
def hdr (f : Fl) : Bool := decide (f.1.length + 2 + f.2.length ≤ 1000) && hnm f.1 && hvl f.2 && !alk f.1 CL && !alk f.1 TE
def flw (hs : List Fl) (b : Bs) : Bool := decide (hs.length ≤ 32 ∧ b.length ≤ 4000) && hs.all hdr
def hln (f : Fl) : Bs := f.1 ++ ([58, 32] ++ (f.2 ++ [13, 10]))
def hlns (hs : List Fl) : Bs := hs.flatMap hln
def lay (first : Bs) (hs : List Fl) (b : Bs) : Bs := first ++ ([13, 10] ++ (hlns hs ++ (hln (CL, decDigits b.length) ++ ([13, 10] ++ b))))
/-- Digits without noughts ahead, and what they say. -/
def num (s : Bs) : Bool := s == [48] || (!(s == []) && !(s.head? == some 48) && s.all dgt)
def vl (a : Nat) (s : Bs) : Nat := s.foldl (fun a c => a * 10 + (c.toNat - 48)) a
structure Fst where
  m : Bs
  p : Bs
  s : Nat
def f00 : Fst := ⟨[], [], 0⟩
def opM (l : Bs) : Option Fst :=
  if meth (hd 32 l) && pth (hd 32 (tl 32 l)) && tl 32 (tl 32 l) == vers then some ⟨hd 32 l, hd 32 (tl 32 l), 0⟩ else none
def opA (l : Bs) : Option Fst :=
  if (vers ++ [32]).isPrefixOf l && decide ((hd 32 (l.drop 9)).length < (l.drop 9).length) && num (hd 32 (l.drop 9)) && (tl 32 (l.drop 9)).all shn && decide (100 ≤ vl 0 (hd 32 (l.drop 9)) ∧ vl 0 (hd 32 (l.drop 9)) ≤ 599)
  then some ⟨[], [], vl 0 (hd 32 (l.drop 9))⟩ else none
/-- A parser: what it is at, how many bytes there were, the line under way, what was read. -/
structure Ps where
  st : Nat
  rd : Nat
  ln : Bs
  fs : Fst
  hs : List Fl
  len : Int
  bd : Bs
def p0 : Ps := ⟨0, 0, [], f00, [], -1, []⟩
def pov : Ps := ⟨4, 0, [], f00, [], 0, []⟩
def jLen (p : Ps) (v : Bs) : Ps × Nat :=
  if !decide (p.len = -1) || !num v then (pov, 52) else if 4000 < vl 0 v then (pov, 53) else ({ p with len := vl 0 v }, 0)
def jHdr (p : Ps) (l : Bs) (r : Bool) : Ps × Nat :=
  if !r || !decide ((hd 58 l).length < l.length) || !hnm (hd 58 l) || !(tl 58 l).all shn || alk (hd 58 l) TE then (pov, 51)
  else if alk (hd 58 l) CL then jLen p (trimB (tl 58 l) 32)
  else if p.hs.length = 32 then (pov, 53) else ({ p with hs := p.hs ++ [(hd 58 l, trimB (tl 58 l) 32)] }, 0)
def jEnd (p : Ps) : Ps := if p.len ≤ 0 then { p with st := 3 } else { p with st := 2 }
def ret (e : Bs) : Bool := e.getLast? == some 13
def cutr (e : Bs) : Bs := if ret e then e.dropLast else e
def jFst (op : Bs → Option Fst) (p : Ps) (l : Bs) (r : Bool) : Ps × Nat :=
  match op l with
  | none => (pov, 50)
  | some f => if r then ({ p with fs := f, st := 1 }, 0) else (pov, 50)
def judge (op : Bs → Option Fst) (p : Ps) (e : Bs) : Ps × Nat :=
  if p.st = 0 then jFst op p (cutr e) (ret e) else if ret e && cutr e == [] then (jEnd p, 0) else jHdr p (cutr e) (ret e)
def step (op : Bs → Option Fst) (p : Ps) (b : UInt8) : Ps × Nat :=
  if p.st ≤ 1 then
    if b = 10 then judge op { p with rd := p.rd + 1, ln := [] } p.ln
    else if 1001 < p.ln.length + 1 then (pov, 53) else ({ p with rd := p.rd + 1, ln := p.ln ++ [b] }, 0)
  else if ((p.bd ++ [b]).length : Int) = p.len then ({ p with st := 3, rd := p.rd + 1, bd := p.bd ++ [b] }, 0) else ({ p with rd := p.rd + 1, bd := p.bd ++ [b] }, 0)
structure Ms where
  m : Bs
  p : Bs
  hs : List Fl
  b : Bs
def Ps.ms (p : Ps) : Ms := ⟨p.fs.m, p.fs.p, p.hs, p.bd⟩
def fd : Ps → Bs → List Ms → Ps × List Ms × Nat
  | p, [], l => (p, l, 0)
  | p, b :: s, l => if (step opM p b).2 ≠ 0 then ((step opM p b).1, l, (step opM p b).2) else if (step opM p b).1.st = 3 then fd p0 s (l ++ [(step opM p b).1.ms]) else fd (step opM p b).1 s l
def feed (p : Ps) (s : Bs) : Ps × List Ms × Nat := if p.st = 4 then (p, [], 54) else fd p s []
/-- Bytes that end nothing. -/
def run (op : Bs → Option Fst) : Ps → Bs → Option Ps
  | p, [] => some p
  | p, b :: s => if (step op p b).2 = 0 ∧ (step op p b).1.st ≠ 3 then run op (step op p b).1 s else none
theorem run_append (op : Bs → Option Fst) (p : Ps) (s t : Bs) : run op p (s ++ t) = (run op p s).bind (run op · t) := by
  induction s generalizing p with
  | nil => simp [run]
  | cons b s ih =>
    simp only [List.cons_append, run]
    split
    · exact ih _
    · rfl
theorem run_two {op : Bs → Option Fst} {p q r : Ps} {s t : Bs} (h1 : run op p s = some q) (h2 : run op q t = some r) : run op p (s ++ t) = some r := by
  rw [run_append, h1]; exact h2
theorem run_take {op : Bs → Option Fst} {p q : Ps} {s : Bs} (h : run op p s = some q) (k : Nat) : ∃ r, run op p (s.take k) = some r ∧ run op r (s.drop k) = some q := by
  rw [← List.take_append_drop k s, run_append] at h
  cases hr : run op p (s.take k) with
  | none => rw [hr] at h; simp at h
  | some r => rw [hr] at h; exact ⟨r, rfl, h⟩
theorem fd_run {p q : Ps} {s : Bs} (h : run opM p s = some q) (t : Bs) (l : List Ms) : fd p (s ++ t) l = fd q t l := by
  induction s generalizing p with
  | nil => simp [run] at h; subst h; rfl
  | cons b s ih =>
    simp only [run] at h
    split at h
    · rename_i hc
      simp only [List.cons_append, fd]
      rw [if_neg (by simp [hc.1]), if_neg hc.2]
      exact ih h
    · simp at h
theorem fd_append (p : Ps) (s t : Bs) (l : List Ms) : fd p (s ++ t) l = if (fd p s l).2.2 ≠ 0 then fd p s l else fd (fd p s l).1 t (fd p s l).2.1 := by
  induction s generalizing p l with
  | nil => simp [fd]
  | cons b s ih =>
    simp only [List.cons_append, fd]
    split
    · rename_i h; simp
    · split
      · exact ih _ _
      · exact ih _ _
theorem jLen_rd (p : Ps) (v : Bs) (h : (jLen p v).2 = 0) : (jLen p v).1.rd = p.rd ∧ (jLen p v).1.st = p.st ∧ (jLen p v).1.ln = p.ln ∧ (jLen p v).1.fs = p.fs := by
  unfold jLen at h ⊢
  split
  · rename_i h1; rw [if_pos h1] at h; simp at h
  · split
    · rename_i h1 h2; rw [if_neg h1, if_pos h2] at h; simp at h
    · exact ⟨rfl, rfl, rfl, rfl⟩
theorem jHdr_rd (p : Ps) (l : Bs) (r : Bool) (h : (jHdr p l r).2 = 0) : (jHdr p l r).1.rd = p.rd ∧ (jHdr p l r).1.st = p.st ∧ (jHdr p l r).1.ln = p.ln := by
  unfold jHdr at h ⊢
  split
  · rename_i h1; rw [if_pos h1] at h; simp at h
  · rename_i h1
    rw [if_neg h1] at h
    split
    · rename_i h2
      rw [if_pos h2] at h
      exact ⟨(jLen_rd p _ h).1, (jLen_rd p _ h).2.1, (jLen_rd p _ h).2.2.1⟩
    · rename_i h2
      rw [if_neg h2] at h
      split
      · rename_i h3; rw [if_pos h3] at h; simp at h
      · exact ⟨rfl, rfl, rfl⟩
theorem judge_rd (op : Bs → Option Fst) (p : Ps) (e : Bs) (h : (judge op p e).2 = 0) : (judge op p e).1.rd = p.rd ∧ (judge op p e).1.st ≤ max 3 p.st := by
  unfold judge at h ⊢
  split
  · rename_i h1
    rw [if_pos h1] at h
    unfold jFst at h ⊢
    split
    · rename_i h2; rw [h2] at h; simp at h
    · rename_i h2
      rw [h2] at h
      split
      · exact ⟨rfl, by simp; omega⟩
      · rename_i h3; simp [h3] at h
  · rename_i h1
    rw [if_neg h1] at h
    split
    · unfold jEnd
      split
      · exact ⟨rfl, by simp; omega⟩
      · exact ⟨rfl, by simp; omega⟩
    · rename_i h2
      rw [if_neg h2] at h
      have := jHdr_rd p _ _ h
      exact ⟨this.1, by rw [this.2.1]; omega⟩
theorem step_rd (op : Bs → Option Fst) (p : Ps) (b : UInt8) (h : (step op p b).2 = 0) (hp : p.st ≤ 3) : (step op p b).1.rd = p.rd + 1 ∧ (step op p b).1.st ≤ 3 := by
  unfold step at h ⊢
  split
  · rename_i h1
    rw [if_pos h1] at h
    split
    · rename_i h2
      rw [if_pos h2] at h
      have := judge_rd op _ _ h
      exact ⟨this.1, by have := this.2; simp at this; omega⟩
    · rename_i h2
      rw [if_neg h2] at h
      split
      · rename_i h3; rw [if_pos h3] at h; simp at h
      · exact ⟨rfl, hp⟩
  · split
    · exact ⟨rfl, by simp⟩
    · exact ⟨rfl, hp⟩
theorem run_rd {op : Bs → Option Fst} {p q : Ps} {s : Bs} (h : run op p s = some q) (hp : p.st < 3) : q.rd = p.rd + s.length ∧ q.st < 3 := by
  induction s generalizing p with
  | nil => simp [run] at h; subst h; exact ⟨rfl, hp⟩
  | cons b s ih =>
    simp only [run] at h
    split at h
    · rename_i hc
      have h1 := step_rd op p b hc.1 (by omega)
      have h2 := ih h (by have := hc.2; omega)
      simp only [List.length_cons]
      omega
    · simp at h
/-- Bytes of a line. -/
theorem run_line (op : Bs → Option Fst) (l : Bs) (p : Ps) (hp : p.st ≤ 1) (hl : ∀ c ∈ l, c ≠ 10) (hn : p.ln.length + l.length ≤ 1001) : run op p l = some { p with rd := p.rd + l.length, ln := p.ln ++ l } := by
  induction l generalizing p with
  | nil => simp [run]
  | cons b l ih =>
    simp only [List.length_cons] at hn
    have hb : b ≠ 10 := hl b List.mem_cons_self
    have hs : step op p b = ({ p with rd := p.rd + 1, ln := p.ln ++ [b] }, 0) := by
      unfold step
      rw [if_pos hp, if_neg hb, if_neg (by omega)]
    simp only [run, hs]
    rw [if_pos ⟨trivial, by simp; omega⟩]
    refine (ih _ (by exact hp) (fun c hc => hl c (List.mem_cons_of_mem _ hc)) (by simp; omega)).trans ?_
    simp
    omega
/-- A whole line, with its end. -/
theorem run_lined (op : Bs → Option Fst) (l : Bs) (p q : Ps) (hp : p.st ≤ 1) (h0 : p.ln = []) (hl : ∀ c ∈ l, c ≠ 10) (hn : l.length ≤ 1000)
    (hj : judge op { p with rd := p.rd + l.length + 2, ln := [] } (l ++ [13]) = (q, 0)) (hq : q.st ≠ 3) : run op p (l ++ [13, 10]) = some q := by
  have e : l ++ [13, 10] = (l ++ [13]) ++ [10] := by simp
  rw [e]
  refine run_two (run_line op (l ++ [13]) p hp ?_ (by simp [h0]; omega)) ?_
  · intro c hc
    rw [List.mem_append] at hc
    rcases hc with hc | hc
    · exact hl c hc
    · simp at hc; subst hc; decide
  · have hs : step op { p with rd := p.rd + (l ++ [13]).length, ln := p.ln ++ (l ++ [13]) } 10 = (q, 0) := by
      unfold step
      rw [if_pos (by exact hp), if_pos rfl, h0, ← hj]
      simp [Nat.add_assoc]
    simp only [run, hs]
    rw [if_pos ⟨trivial, hq⟩]
theorem ret_snoc (l : Bs) : ret (l ++ [13]) = true := by simp [ret]
theorem cutr_snoc (l : Bs) : cutr (l ++ [13]) = l := by simp [cutr, ret_snoc]
theorem run_first {op : Bs → Option Fst} {l : Bs} {f : Fst} (ho : op l = some f) (hl : ∀ c ∈ l, c ≠ 10) (hn : l.length ≤ 1000) : run op p0 (l ++ [13, 10]) = some ⟨1, l.length + 2, [], f, [], -1, []⟩ := by
  refine run_lined op l p0 _ (by decide) rfl hl hn ?_ (by simp)
  unfold judge
  rw [if_pos (by rfl), ret_snoc, cutr_snoc]
  unfold jFst
  rw [ho]
  simp [p0]
theorem hd_app (c : UInt8) (a b : Bs) (h : ∀ x ∈ a, x ≠ c) : hd c (a ++ c :: b) = a ∧ tl c (a ++ c :: b) = b := by
  unfold hd tl
  induction a with
  | nil => simp
  | cons x a ih =>
    have hx := h x List.mem_cons_self
    have := ih (fun y hy => h y (List.mem_cons_of_mem _ hy))
    simp [hx] at this ⊢
    exact this
theorem nby_ne {c d : UInt8} (h : nby c = true) (hd : nby d = false) : c ≠ d := by
  intro e; subst e; rw [h] at hd; cases hd
theorem shn_ne10 {c : UInt8} (h : shn c = true) : c ≠ 10 := by
  intro e; subst e; exact absurd h (by decide)
theorem all_u8 {P : UInt8 → Prop} (h : ∀ n, n < 256 → P (UInt8.ofNat n)) (c : UInt8) : P c := by
  have := h c.toNat c.toNat_lt
  rwa [UInt8.ofNat_toNat] at this
theorem nby_shn {c : UInt8} (h : nby c = true) : shn c = true := by
  have q : ∀ c : UInt8, nby c = true → shn c = true := all_u8 (by decide +kernel)
  exact q c h
theorem trim_mid (v : Bs) (h : hvl v = true) : trimB (32 :: v) 32 = v := by
  unfold hvl at h
  simp only [Bool.and_eq_true, Bool.not_eq_true'] at h
  unfold trimB
  have e : trimRightB (32 :: v) 32 = if v = [] then [] else 32 :: v := by
    by_cases hv : v = []
    · subst hv; decide
    · rw [if_neg hv]
      unfold trimRightB
      have : (32 :: v).reverse.dropWhile (· == 32) = (32 :: v).reverse := by
        have h2 := h.2
        rw [List.getLast?_eq_head?_reverse] at h2
        rw [List.reverse_cons]
        cases hr : v.reverse with
        | nil => simp at hr; exact absurd hr hv
        | cons a l =>
          rw [hr] at h2
          simp at h2
          simp [h2]
      rw [this, List.reverse_reverse]
  rw [e]
  split
  · rename_i hv; subst hv; rfl
  · unfold trimLeftB
    cases v with
    | nil => rfl
    | cons a l =>
      have := h.1.2
      simp at this
      simp [this]
theorem hln_line (f : Fl) (hn : hnm f.1 = true) (hv : hvl f.2 = true) (hl : f.1.length + 2 + f.2.length ≤ 1000) (op : Bs → Option Fst) (p q : Ps) (hp : p.st = 1) (h0 : p.ln = []) (hq : q.st ≠ 3)
    (ht : alk f.1 TE = false)
    (hj : (if alk f.1 CL then jLen { p with rd := p.rd + (hln f).length } f.2 else if p.hs.length = 32 then (pov, 53) else ({ p with rd := p.rd + (hln f).length, hs := p.hs ++ [f] }, 0)) = (q, 0)) : run op p (hln f) = some q := by
  obtain ⟨n, v⟩ := f
  simp only at hn hv hl ht hj
  have hvs : ∀ c ∈ v, shn c = true := by
    unfold hvl at hv; simp only [Bool.and_eq_true] at hv; exact List.all_eq_true.1 hv.1.1
  have hns : ∀ c ∈ n, nby c = true := by
    unfold hnm at hn; simp only [Bool.and_eq_true] at hn; exact List.all_eq_true.1 hn.2
  have e : hln (n, v) = (n ++ 58 :: 32 :: v) ++ [13, 10] := by simp [hln]
  rw [e]
  have hcut := hd_app 58 n (32 :: v) (fun x hx => nby_ne (hns x hx) (by decide))
  refine run_lined op _ p q (by omega) h0 ?_ (by simp; omega) ?_ hq
  · intro c hc
    simp only [List.mem_append, List.mem_cons] at hc
    rcases hc with hc | rfl | rfl | hc
    · exact shn_ne10 (nby_shn (hns c hc))
    · decide
    · decide
    · exact shn_ne10 (hvs c hc)
  · unfold judge
    rw [if_neg (by show ¬ p.st = 0; omega), ret_snoc, cutr_snoc]
    rw [if_neg (by simp)]
    unfold jHdr
    rw [hcut.1, hcut.2, hn, ht, trim_mid v hv]
    have ha : (32 :: v).all shn = true := by
      rw [List.all_eq_true]
      intro c hc
      rw [List.mem_cons] at hc
      rcases hc with rfl | hc
      · decide
      · exact hvs c hc
    rw [ha]
    have hlt : decide (n.length < (n ++ 58 :: 32 :: v).length) = true := by simp
    rw [hlt, if_neg (by simp)]
    have e2 : p.rd + (n ++ 58 :: 32 :: v).length + 2 = p.rd + (hln (n, v)).length := by simp [hln]; omega
    rw [e2, ← hj]
    obtain ⟨a1, a2, a3, a4, a5, a6, a7⟩ := p
    simp only at h0
    subst h0
    rfl
theorem run_hlns (op : Bs → Option Fst) (hs : List Fl) (p : Ps) (hp : p.st = 1) (h0 : p.ln = []) (hh : hs.all hdr = true) (hn : p.hs.length + hs.length ≤ 32) : run op p (hlns hs) = some { p with rd := p.rd + (hlns hs).length, hs := p.hs ++ hs } := by
  induction hs generalizing p with
  | nil => simp [hlns, run]
  | cons f hs ih =>
    simp only [List.all_cons, Bool.and_eq_true] at hh
    have hf := hh.1
    unfold hdr at hf
    simp only [Bool.and_eq_true, Bool.not_eq_true', decide_eq_true_eq] at hf
    simp only [List.length_cons] at hn
    have e : hlns (f :: hs) = hln f ++ hlns hs := by simp [hlns]
    rw [e]
    refine run_two (hln_line f hf.1.1.1.2 hf.1.1.2 hf.1.1.1.1 op p { p with rd := p.rd + (hln f).length, hs := p.hs ++ [f] } hp h0 (by simp [hp]) hf.2 ?_) ?_
    · rw [if_neg (by simp [hf.1.2]), if_neg (by omega)]
    · rw [ih _ (by exact hp) (by exact h0) hh.2 (by simp; omega)]
      simp
      omega
theorem dec_dgt (n : Nat) : ∀ c ∈ decDigits n, dgt c = true := by
  induction n using decDigits.induct with
  | case1 n h =>
    rw [decDigits, dif_pos h]
    intro c hc
    rw [List.mem_singleton] at hc
    subst hc
    have : ∀ m : Nat, m < 10 → dgt (UInt8.ofNat (48 + m)) = true := by decide
    exact this n h
  | case2 n h ih =>
    rw [decDigits, dif_neg h]
    intro c hc
    rw [List.mem_append] at hc
    rcases hc with hc | hc
    · exact ih c hc
    · rw [List.mem_singleton] at hc
      subst hc
      have : ∀ m : Nat, m < 10 → dgt (UInt8.ofNat (48 + m)) = true := by decide
      exact this (n % 10) (by omega)
theorem dec_ne (n : Nat) : decDigits n ≠ [] := by
  rw [decDigits]
  split <;> simp
theorem vl_append (a : Nat) (s t : Bs) : vl a (s ++ t) = vl (vl a s) t := by simp [vl]
theorem dec_vl (n : Nat) : vl 0 (decDigits n) = n := by
  have hd1 : ∀ m : Nat, m < 10 → (UInt8.ofNat (48 + m)).toNat - 48 = m := by decide
  induction n using decDigits.induct with
  | case1 n h =>
    rw [decDigits, dif_pos h]
    simp only [vl, List.foldl_cons, List.foldl_nil, hd1 n h]
    omega
  | case2 n h ih =>
    rw [decDigits, dif_neg h, vl_append, ih]
    simp only [vl, List.foldl_cons, List.foldl_nil, hd1 (n % 10) (by omega)]
    omega
theorem dec_head (n : Nat) (h : 0 < n) : (decDigits n).head? ≠ some 48 := by
  induction n using decDigits.induct with
  | case1 n h1 =>
    rw [decDigits, dif_pos h1]
    have : ∀ m : Nat, m < 10 → 0 < m → UInt8.ofNat (48 + m) ≠ 48 := by decide
    simpa using this n h1 h
  | case2 n h1 ih =>
    rw [decDigits, dif_neg h1, List.head?_append]
    have := ih (by omega)
    cases hh : (decDigits (n / 10)).head? with
    | none => rw [List.head?_eq_none_iff] at hh; exact absurd hh (dec_ne _)
    | some c => rw [hh] at this; simpa using this
theorem dec_num (n : Nat) : num (decDigits n) = true := by
  unfold num
  by_cases h : n = 0
  · subst h
    rw [decDigits, dif_pos (by decide)]
    decide
  · have h1 := dec_head n (by omega)
    have h2 : (decDigits n).all dgt = true := List.all_eq_true.2 (dec_dgt n)
    simp [dec_ne, h2, h1]
theorem dgt_shn {c : UInt8} (h : dgt c = true) : shn c = true ∧ c ≠ 32 := by
  have q : ∀ c : UInt8, dgt c = true → shn c = true ∧ c ≠ 32 := all_u8 (by decide +kernel)
  exact q c h
theorem dec_hvl (n : Nat) : hvl (decDigits n) = true := by
  unfold hvl
  have h1 : (decDigits n).all shn = true := List.all_eq_true.2 (fun c hc => (dgt_shn (dec_dgt n c hc)).1)
  have h2 : ∀ c, c ∈ decDigits n → c ≠ 32 := fun c hc => (dgt_shn (dec_dgt n c hc)).2
  rw [h1]
  have h3 : (decDigits n).head? ≠ some 32 := fun e => h2 32 (List.mem_of_head? e) rfl
  have h4 : (decDigits n).getLast? ≠ some 32 := fun e => h2 32 (List.mem_of_getLast? e) rfl
  simp [h3, h4]
/-- The bytes of a body, but for the last. -/
theorem run_body (op : Bs → Option Fst) (l : Bs) (p : Ps) (hp : p.st = 2) (hl : ((p.bd.length + l.length : Nat) : Int) < p.len) : run op p l = some { p with rd := p.rd + l.length, bd := p.bd ++ l } := by
  induction l generalizing p with
  | nil => simp [run]
  | cons b l ih =>
    simp only [List.length_cons] at hl
    have hs : step op p b = ({ p with rd := p.rd + 1, bd := p.bd ++ [b] }, 0) := by
      unfold step
      rw [if_neg (by omega), if_neg (by simp; omega)]
    simp only [run, hs]
    rw [if_pos ⟨trivial, by simp; omega⟩]
    refine (ih _ (by exact hp) (by simp; omega)).trans ?_
    simp
    omega
/-- What was laid is read as it was, and ends with its last byte. -/
theorem lay_reads {op : Bs → Option Fst} {l : Bs} {f : Fst} (ho : op l = some f) (hl : ∀ c ∈ l, c ≠ 10) (hn : l.length ≤ 1000) (hs : List Fl) (b : Bs) (hb : flw hs b = true) (hd9 : (decDigits b.length).length ≤ 100) :
    ∃ (i : Bs) (c : UInt8) (q : Ps), lay l hs b = i ++ [c] ∧ run op p0 i = some q ∧ step op q c = (⟨3, (lay l hs b).length, [], f, hs, b.length, b⟩, 0) := by
  unfold flw at hb
  simp only [Bool.and_eq_true, decide_eq_true_eq] at hb
  have h1 := run_first ho hl hn
  have h2 := run_hlns op hs ⟨1, l.length + 2, [], f, [], -1, []⟩ rfl rfl hb.2 (by simp; omega)
  have h3 := hln_line (CL, decDigits b.length) (by show hnm CL = true; decide) (dec_hvl _) (by show 14 + 2 + (decDigits b.length).length ≤ 1000; omega) op
    ⟨1, l.length + 2 + (hlns hs).length, [], f, hs, -1, []⟩ ⟨1, l.length + 2 + (hlns hs).length + (hln (CL, decDigits b.length)).length, [], f, hs, b.length, []⟩ rfl rfl (by simp) (by show alk CL TE = false; decide) (by
      rw [if_pos (by show alk CL CL = true; decide)]
      unfold jLen
      rw [dec_num, dec_vl]
      rw [if_neg (by simp), if_neg (by omega)])
  have h4 := run_two (run_two h1 (by simpa using h2)) h3
  obtain ⟨I, hI⟩ : ∃ I, I = l ++ [13, 10] ++ hlns hs ++ hln (CL, decDigits b.length) := ⟨_, rfl⟩
  have hIl : I.length = l.length + 2 + (hlns hs).length + (hln (CL, decDigits b.length)).length := by subst hI; simp; omega
  rw [← hI, ← hIl] at h4
  have e0 : lay l hs b = I ++ ([13, 10] ++ b) := by subst hI; simp [lay]
  have h5 := run_line op [13] ⟨1, I.length, [], f, hs, b.length, []⟩ (by simp) (by decide) (by simp)
  have h6 := run_two h4 h5
  have hst : step op ⟨1, I.length + 1, [13], f, hs, b.length, []⟩ 10 = (jEnd ⟨1, I.length + 2, [], f, hs, b.length, []⟩, 0) := rfl
  by_cases hb0 : b = []
  · subst hb0
    refine ⟨I ++ [13], 10, _, by rw [e0]; simp, h6, ?_⟩
    refine hst.trans ?_
    unfold jEnd
    rw [if_pos (by simp)]
    simp [e0]
  · have hbl : 0 < b.length := List.length_pos_iff.2 hb0
    have hj : jEnd ⟨1, I.length + 2, [], f, hs, b.length, []⟩ = ⟨2, I.length + 2, [], f, hs, b.length, []⟩ := by
      unfold jEnd
      rw [if_neg (by show ¬ ((b.length : Nat) : Int) ≤ 0; omega)]
    have h7 : run op p0 (I ++ [13, 10]) = some ⟨2, I.length + 2, [], f, hs, b.length, []⟩ := by
      have e : I ++ [13, 10] = (I ++ [13]) ++ [10] := by simp
      rw [e]
      refine run_two h6 ?_
      show run op ⟨1, I.length + 1, [13], f, hs, b.length, []⟩ [10] = _
      simp only [run, hst, hj]
      rfl
    obtain ⟨i, c, rfl⟩ : ∃ i c, b = i ++ [c] := ⟨b.dropLast, b.getLast hb0, (List.dropLast_concat_getLast hb0).symm⟩
    have h8 := run_body op i ⟨2, I.length + 2, [], f, hs, ((i ++ [c]).length : Nat), []⟩ rfl (by simp; omega)
    refine ⟨I ++ [13, 10] ++ i, c, _, by rw [e0]; simp, run_two h7 h8, ?_⟩
    unfold step
    rw [if_neg (by simp), if_pos (by simp)]
    rw [e0]
    simp
    omega
end Go.Proofs.YthlacailhfhjnaaGreatDoor
/- What is read line by line is what the machine reads byte by byte. -/
namespace Go.Proofs.YthlacailhfhjnaaGreatDoor
open Go.Lib
abbrev Rs := Option (Except Nat (Ps × Bs))
/-- Byte by byte: not whole yet; what is wrong; what was read, and what stands behind it. -/
def sc (op : Bs → Option Fst) : Ps → Bs → Rs
  | _, [] => none
  | p, b :: s => if (step op p b).2 ≠ 0 then some (.error (step op p b).2) else if (step op p b).1.st = 3 then some (.ok ((step op p b).1, s)) else sc op (step op p b).1 s
theorem sc_run {op : Bs → Option Fst} {p q : Ps} {s : Bs} (h : run op p s = some q) (t : Bs) : sc op p (s ++ t) = sc op q t := by
  induction s generalizing p with
  | nil => simp [run] at h; subst h; rfl
  | cons b s ih =>
    simp only [run] at h
    split at h
    · rename_i hc
      simp only [List.cons_append, sc]
      rw [if_neg (by simp [hc.1]), if_neg hc.2]
      exact ih h
    · simp at h
theorem sc_none {op : Bs → Option Fst} {p : Ps} {s : Bs} (h : sc op p s = none) : ∃ q, run op p s = some q := by
  induction s generalizing p with
  | nil => exact ⟨p, rfl⟩
  | cons b s ih =>
    simp only [sc] at h
    split at h
    · cases h
    · rename_i h1
      split at h
      · cases h
      · rename_i h2
        obtain ⟨q, hq⟩ := ih h
        refine ⟨q, ?_⟩
        simp only [run]
        rw [if_pos ⟨by simpa using h1, h2⟩]
        exact hq
theorem run_sc {op : Bs → Option Fst} {p q : Ps} {s : Bs} (h : run op p s = some q) : sc op p s = none := by
  have := sc_run h []
  rw [List.append_nil] at this
  rw [this]
  rfl
/-- Behind a line: a body, or the next line. -/
def nxl (q : Ps) (t : Bs) (k : Rs) : Rs :=
  if q.st = 3 then some (.ok (q, t)) else if q.st = 2 then (if (t.length : Int) < q.len then none else some (.ok ({ q with st := 3, rd := q.rd + q.len.toNat, bd := t.take q.len.toNat }, t.drop q.len.toNat))) else k
/-- Line by line. -/
def rdl (op : Bs → Option Fst) : Nat → Ps → Bs → Rs
  | 0, _, _ => none
  | n + 1, p, s =>
    if 1001 < (hd 10 s).length then some (.error 53) else if (hd 10 s).length < s.length then
      (if (judge op { p with rd := p.rd + (hd 10 s).length + 1, ln := [] } (hd 10 s)).2 ≠ 0 then some (.error (judge op { p with rd := p.rd + (hd 10 s).length + 1, ln := [] } (hd 10 s)).2)
      else nxl (judge op { p with rd := p.rd + (hd 10 s).length + 1, ln := [] } (hd 10 s)).1 (tl 10 s) (rdl op n (judge op { p with rd := p.rd + (hd 10 s).length + 1, ln := [] } (hd 10 s)).1 (tl 10 s)))
    else none
theorem hd_split (c : UInt8) (s : Bs) : (∀ x ∈ hd c s, x ≠ c) ∧ (((hd c s).length < s.length ∧ s = hd c s ++ c :: tl c s) ∨ ((hd c s).length = s.length ∧ hd c s = s)) := by
  induction s with
  | nil => exact ⟨fun x h => by simp [hd] at h, .inr ⟨rfl, rfl⟩⟩
  | cons b s ih =>
    by_cases h : b = c
    · subst h
      have e1 : hd b (b :: s) = [] := by simp [hd]
      have e2 : tl b (b :: s) = s := by simp [tl]
      rw [e1, e2]
      exact ⟨fun x h => by simp at h, .inl ⟨by simp, rfl⟩⟩
    · have e1 : hd c (b :: s) = b :: hd c s := by simp [hd, h]
      have e2 : tl c (b :: s) = tl c s := by simp [tl, h]
      rw [e1, e2]
      refine ⟨fun x hx => ?_, ?_⟩
      · rcases List.mem_cons.1 hx with rfl | hx
        · exact h
        · exact ih.1 x hx
      · rcases ih.2 with ⟨q1, q2⟩ | ⟨q1, q2⟩
        · exact .inl ⟨by simpa using q1, by rw [List.cons_append, ← q2]⟩
        · exact .inr ⟨by simpa using q1, by rw [q2]⟩
/-- A line that is too long. -/
theorem sc_long (op : Bs → Option Fst) (p : Ps) (l t : Bs) (hp : p.st ≤ 1) (h0 : p.ln = []) (hl : ∀ x ∈ l, x ≠ 10) (hn : 1001 < l.length) : sc op p (l ++ t) = some (.error 53) := by
  have e : l = l.take 1001 ++ l[1001] :: l.drop 1002 := by
    rw [← List.drop_eq_getElem_cons hn, List.take_append_drop]
  have h1 := run_line op (l.take 1001) p hp (fun x hx => hl x (List.mem_of_mem_take hx)) (by rw [h0, List.length_take]; simp; omega)
  have hb : l[1001] ≠ 10 := hl _ (List.getElem_mem hn)
  rw [e, List.append_assoc, sc_run h1, List.cons_append]
  simp only [sc]
  have hs : (step op { p with rd := p.rd + (l.take 1001).length, ln := p.ln ++ l.take 1001 } l[1001]) = (pov, 53) := by
    unfold step
    rw [if_pos (by exact hp), if_neg hb, if_pos (by simp [h0]; omega)]
  rw [hs]
  rfl
/-- A body. -/
theorem sc_body (op : Bs → Option Fst) (q : Ps) (t : Bs) (h2 : q.st = 2) (hb : q.bd = []) (hl : 0 < q.len) : sc op q t = if (t.length : Int) < q.len then none else some (.ok ({ q with st := 3, rd := q.rd + q.len.toNat, bd := t.take q.len.toNat }, t.drop q.len.toNat)) := by
  by_cases h : (t.length : Int) < q.len
  · rw [if_pos h]
    have := run_body op t q h2 (by rw [hb]; simpa using h)
    exact run_sc this
  · rw [if_neg h]
    obtain ⟨n, hn⟩ : ∃ n : Nat, q.len = ((n + 1 : Nat) : Int) := ⟨q.len.toNat - 1, by omega⟩
    have hnt : n < t.length := by omega
    have e : t = t.take n ++ t[n] :: t.drop (n + 1) := by rw [← List.drop_eq_getElem_cons hnt, List.take_append_drop]
    have h1 := run_body op (t.take n) q h2 (by rw [hb, List.length_take]; simp; omega)
    have hs : step op { q with rd := q.rd + (t.take n).length, bd := q.bd ++ t.take n } t[n] = ({ q with st := 3, rd := q.rd + q.len.toNat, bd := t.take q.len.toNat }, 0) := by
      unfold step
      rw [if_neg (by show ¬ q.st ≤ 1; omega), if_pos (by simp [hb, hn]; omega)]
      have e3 : q.len.toNat = n + 1 := by omega
      rw [e3, hb, List.nil_append, List.take_succ_eq_append_getElem hnt, List.length_take]
      simp
      omega
    conv => lhs; rw [e, sc_run h1]
    simp only [sc]
    rw [hs]
    have e3 : q.len.toNat = n + 1 := by omega
    rw [e3]
    rfl
theorem jLen_bd (p : Ps) (v : Bs) (h : (jLen p v).2 = 0) : (jLen p v).1.bd = p.bd := by
  unfold jLen at h ⊢
  split
  · rename_i h1; rw [if_pos h1] at h; simp at h
  · split
    · rename_i h1 h2; rw [if_neg h1, if_pos h2] at h; simp at h
    · rfl
theorem jHdr_bd (p : Ps) (l : Bs) (r : Bool) (h : (jHdr p l r).2 = 0) : (jHdr p l r).1.bd = p.bd := by
  unfold jHdr at h ⊢
  split
  · rename_i h1; rw [if_pos h1] at h; simp at h
  · rename_i h1
    rw [if_neg h1] at h
    split
    · rename_i h2
      rw [if_pos h2] at h
      exact jLen_bd p _ h
    · rename_i h2
      rw [if_neg h2] at h
      split
      · rename_i h3; rw [if_pos h3] at h; simp at h
      · rfl
theorem jdg_ok (op : Bs → Option Fst) (p : Ps) (e : Bs) (hp : p.st ≤ 1) (h : (judge op p e).2 = 0) : (judge op p e).1.ln = p.ln ∧ (judge op p e).1.bd = p.bd ∧ ((judge op p e).1.st = 2 → 0 < (judge op p e).1.len) ∧ (judge op p e).1.st ≤ 3 := by
  unfold judge at h ⊢
  split
  · rename_i h1
    rw [if_pos h1] at h
    unfold jFst at h ⊢
    split
    · rename_i h2; rw [h2] at h; simp at h
    · rename_i h2
      rw [h2] at h
      split
      · exact ⟨rfl, rfl, fun q => by simp at q, by simp⟩
      · rename_i h3; simp [h3] at h
  · rename_i h1
    rw [if_neg h1] at h
    split
    · unfold jEnd
      split
      · exact ⟨rfl, rfl, fun q => by simp at q, by simp⟩
      · rename_i h3
        exact ⟨rfl, rfl, fun _ => by simpa using h3, by simp⟩
    · rename_i h2
      rw [if_neg h2] at h
      have h3 := jHdr_rd p _ _ h
      exact ⟨h3.2.2, jHdr_bd p _ _ h, fun q => by rw [h3.2.1] at q; omega, by rw [h3.2.1]; omega⟩
/-- Line by line or byte by byte: the same. -/
theorem sc_rdl (op : Bs → Option Fst) : ∀ (n : Nat) (p : Ps) (s : Bs), p.st ≤ 1 → p.ln = [] → p.bd = [] → s.length < n → sc op p s = rdl op n p s
  | 0, _, _, _, _, _, h => absurd h (by omega)
  | n + 1, p, s, hp, h0, hb, hn => by
    obtain ⟨hne, hs⟩ := hd_split 10 s
    unfold rdl
    by_cases hlong : 1001 < (hd 10 s).length
    · rw [if_pos hlong]
      rcases hs with ⟨_, e⟩ | ⟨_, e⟩
      · conv => lhs; rw [e]
        exact sc_long op p _ _ hp h0 hne hlong
      · have := sc_long op p (hd 10 s) [] hp h0 hne hlong
        rw [List.append_nil, e] at this
        exact this
    · rw [if_neg hlong]
      have h1 := run_line op (hd 10 s) p hp hne (by rw [h0]; simp; omega)
      rcases hs with ⟨hlt, e⟩ | ⟨hlt, e⟩
      · rw [if_pos hlt]
        have hlen : (tl 10 s).length < n := by
          have := congrArg List.length e
          simp at this
          omega
        have hst : step op { p with rd := p.rd + (hd 10 s).length, ln := p.ln ++ hd 10 s } 10 = judge op { p with rd := p.rd + (hd 10 s).length + 1, ln := [] } (hd 10 s) := by
          unfold step
          rw [if_pos (by exact hp), if_pos rfl, h0]
          simp
        conv => lhs; rw [e, sc_run h1]
        simp only [sc]
        rw [hst]
        have hj := jdg_ok op { p with rd := p.rd + (hd 10 s).length + 1, ln := [] } (hd 10 s) (by exact hp)
        generalize judge op { p with rd := p.rd + (hd 10 s).length + 1, ln := [] } (hd 10 s) = J at *
        by_cases h2 : J.2 = 0
        · have h2' : ¬ J.2 ≠ 0 := by simp [h2]
          rw [if_neg h2', if_neg h2']
          obtain ⟨j1, j2, j3, j4⟩ := hj h2
          unfold nxl
          by_cases h3 : J.1.st = 3
          · rw [if_pos h3, if_pos h3]
          · rw [if_neg h3, if_neg h3]
            by_cases h4 : J.1.st = 2
            · rw [if_pos h4]
              exact sc_body op J.1 _ h4 (by rw [j2]; exact hb) (j3 h4)
            · rw [if_neg h4]
              exact sc_rdl op n J.1 _ (by omega) j1 (by rw [j2]; exact hb) hlen
        · rw [if_pos h2, if_pos h2]
      · rw [if_neg (by omega)]
        rw [e] at h1
        exact run_sc h1
end Go.Proofs.YthlacailhfhjnaaGreatDoor
