import Derived.Test.YthlacailhfhjnaaGreatDoorZzbg
import Derived.Test.YthlacailhfhjnaaGreatDoorPwa
namespace Go.Proofs.YthlacailhfhjnaaGreatDoor
open Go.RowKit Go.Lib
/-- A book in block Z that no messages came to: the lists that came out, and what they must be. -/
structure BkA (Z : Nat) (xs ys : List Value) (fr wa : Value) (w : World) : Prop where
  blk : w.heap[Z]? = some (.cells (bks fr wa (.slice none 0 0) (.slice none 0 0)) 53 (0, 0))
  f : w.ownsRow 0 22 1 fr xs.length xs
  a : w.ownsRow 0 22 1 wa ys.length ys
  ap : ∀ k, fr.ownBlock = some k → wa.ownBlock ≠ some k
theorem BkA.fZ {Z : Nat} {xs ys : List Value} {fr wa : Value} {w : World} (h : BkA Z xs ys fr wa w) : fr.ownBlock ≠ some Z := fun e => by
  obtain ⟨cs, q⟩ := owns_lt h.f Z e
  rw [h.blk] at q; cases q
theorem BkA.aZ {Z : Nat} {xs ys : List Value} {fr wa : Value} {w : World} (h : BkA Z xs ys fr wa w) : wa.ownBlock ≠ some Z := fun e => by
  obtain ⟨cs, q⟩ := owns_lt h.a Z e
  rw [h.blk] at q; cases q
theorem BkA.below {Z : Nat} {xs ys : List Value} {fr wa : Value} {w w' : World} (h : BkA Z xs ys fr wa w) (k : Below w.heap.size w w') : BkA Z xs ys fr wa w' :=
  ⟨(k.block _ (lt_of_row h.blk)).trans h.blk, owns_same h.f (fun g hg => k.block g (by obtain ⟨cs, q⟩ := owns_lt h.f g hg; exact lt_of_row q)), owns_same h.a (fun g hg => k.block g (by obtain ⟨cs, q⟩ := owns_lt h.a g hg; exact lt_of_row q)), h.ap⟩
/-- The first row has grown, and is laid into its cell. -/
theorem BkA.put0 {Z : Nat} {xs ys : List Value} {fr wa x v' : Value} {w w1 : World} (h : BkA Z xs ys fr wa w) (r1 : w1.ownsRow 0 22 1 v' (xs.length + 1) (xs ++ [x])) (r2 : Only (fun k => fr.ownBlock = some k) w w1) (r3 : ∀ k, v'.ownBlock = some k → fr.ownBlock = some k ∨ w.heap.size ≤ k) :
    BkA Z (xs ++ [x]) ys v' wa (w1.setCell ⟨Z, 0, none⟩ v') ∧ Only (fun k => k = Z ∨ fr.ownBlock = some k) w (w1.setCell ⟨Z, 0, none⟩ v') := by
  have hZ := lt_of_row h.blk
  have eZ := (r2.block Z hZ h.fZ).trans h.blk
  have vZ : v'.ownBlock ≠ some Z := fun e => by
    obtain ⟨cs, q⟩ := owns_lt r1 Z e
    rw [eZ] at q; cases q
  have hal : ∀ k, wa.ownBlock = some k → k < w.heap.size := fun k hk => by obtain ⟨cs, q⟩ := owns_lt h.a k hk; exact lt_of_row q
  refine ⟨⟨?_, ?_, ?_, ?_⟩, ?_⟩
  · rw [heap_setCell_same _ _ _ _ 53 _ eZ]; rfl
  · rw [List.length_append]
    exact owns_same r1 (fun k hk => heap_setCell_other _ _ _ _ (fun e => vZ (by rw [hk, e])))
  · exact owns_same h.a (fun k hk => (heap_setCell_other _ _ _ _ (fun e => h.aZ (by rw [hk, e]))).trans (r2.block k (hal k hk) (fun e => h.ap k e hk)))
  · intro k hk e
    rcases r3 k hk with q | q
    · exact h.ap k q e
    · have := hal k e; omega
  · exact (r2.mono (fun k _ q => .inr q)).put _ _ (.inl (.inl rfl))
theorem BkA.put1 {Z : Nat} {xs ys : List Value} {fr wa x v' : Value} {w w1 : World} (h : BkA Z xs ys fr wa w) (r1 : w1.ownsRow 0 22 1 v' (ys.length + 1) (ys ++ [x])) (r2 : Only (fun k => wa.ownBlock = some k) w w1) (r3 : ∀ k, v'.ownBlock = some k → wa.ownBlock = some k ∨ w.heap.size ≤ k) :
    BkA Z xs (ys ++ [x]) fr v' (w1.setCell ⟨Z, 1, none⟩ v') ∧ Only (fun k => k = Z ∨ wa.ownBlock = some k) w (w1.setCell ⟨Z, 1, none⟩ v') := by
  have hZ := lt_of_row h.blk
  have eZ := (r2.block Z hZ h.aZ).trans h.blk
  have vZ : v'.ownBlock ≠ some Z := fun e => by
    obtain ⟨cs, q⟩ := owns_lt r1 Z e
    rw [eZ] at q; cases q
  have hal : ∀ k, fr.ownBlock = some k → k < w.heap.size := fun k hk => by obtain ⟨cs, q⟩ := owns_lt h.f k hk; exact lt_of_row q
  refine ⟨⟨?_, ?_, ?_, ?_⟩, ?_⟩
  · rw [heap_setCell_same _ _ _ _ 53 _ eZ]; rfl
  · exact owns_same h.f (fun k hk => (heap_setCell_other _ _ _ _ (fun e => h.fZ (by rw [hk, e]))).trans (r2.block k (hal k hk) (fun e => h.ap k hk e)))
  · rw [List.length_append]
    exact owns_same r1 (fun k hk => heap_setCell_other _ _ _ _ (fun e => vZ (by rw [hk, e])))
  · intro k hk e
    rcases r3 k e with q | q
    · exact h.ap k hk q
    · have := hal k hk; omega
  · exact (r2.mono (fun k _ q => .inr q)).put _ _ (.inl (.inl rfl))
theorem wp_push22 {ops : Array Oper} {rest : List Oper} {o : Oper} {ac : Act} {Q : Exit → Act → World → Prop} {wr : World} {V : Value} {xs : List Value} {p0 : Option Addr} {n0 c0 : Nat} (hgd : o.guard = none) (p q : Operand) (ho : o.op = .call { callee := .builtin .append, args := #[p, q], argTypes := #[49, 49] })
    (hp : ac.eval p = V) (hq : ac.eval q = .slice (some ⟨wr.heap.size, 0, none⟩) 1 1) (h : wr.ownsRow 0 22 1 V xs.length xs) (hs : xs.length ≤ 1000000000)
    (hn : ∀ pp cap w', w'.ownsRow 0 22 1 (.slice pp (xs.length + 1) cap) (xs.length + 1) (xs ++ [.slice p0 n0 c0]) → Only (fun k => V.ownBlock = some k) wr w' → (∀ k, (Value.slice pp (xs.length + 1) cap).ownBlock = some k → V.ownBlock = some k ∨ wr.heap.size ≤ k) → wpList Tryz.prog ops Q rest (ac.put o.dst (.slice pp (xs.length + 1) cap)) w') : wpList Tryz.prog ops Q (o :: rest) ac (wr.alloc (.cells #[.slice p0 n0 c0] 22)) := by
  refine push_own 49 22 _ 1 24 Tryz.underlying49 info22 rfl (by decide) hgd p q ho V xs.length xs hp wr h [.slice p0 n0 c0] rfl (by intro u hu; obtain rfl := List.mem_singleton.1 hu; rfl) hq (by omega) (by omega) ?_
  intro pp cap w' r1 r2 r3
  exact hn _ _ w' r1 r2 r3
set_option maxHeartbeats 8000000 in
set_option maxRecDepth 8000 in
/-- fields of a book: a list, and what it must be, are noted. -/
theorem bookFields_any (Z : Nat) (xs ys : List Value) (fr wa : Value) (p1 p2 : Option Addr) (n1 c1 n2 c2 : Nat) (w : World) (h : BkA Z xs ys fr wa w) (hx : xs.length ≤ 1000000) (hy : ys.length ≤ 1000000) :
    Calls Tryz.prog 52 #[.pointer (some ⟨Z, 0, none⟩), .slice p1 n1 c1, .slice p2 n2 c2] w fun e w' => e = .returned (.tuple #[]) ∧ ∃ fr' wa', BkA Z (xs ++ [.slice p1 n1 c1]) (ys ++ [.slice p2 n2 c2]) fr' wa' w' ∧ Only (fun k => k = Z ∨ fr.ownBlock = some k ∨ wa.ownBlock = some k) w w' ∧ (∀ k, fr'.ownBlock = some k → fr.ownBlock = some k ∨ w.heap.size ≤ k) ∧ (∀ k, wa'.ownBlock = some k → wa.ownBlock = some k ∨ w.heap.size ≤ k) := by
  have h0 : w.cell? ⟨Z, 0, none⟩ = some fr := cell_of_row w _ 0 _ 53 (0, 0) h.blk
  have H := hide h
  clear h
  go_enter Tryz.func52, Tryz.ntmps52
  go_wp2_with (first
    | (at_builtin; refine wp_push22 rfl (.tmp 10) (.tmp 12) rfl (by rfl) (by rfl) (unhide H).f (by omega) ?_; intro q1 k1 w1 r1 r2 r3
       have e1 := (r2.block Z (lt_of_row (unhide H).blk) (unhide H).fZ).trans (unhide H).blk
       have fz1 : w1.frozen? ⟨Z, 0, none⟩ = false := by simp [World.frozen?, e1]
       have g1 : w1.cell? ⟨Z, 1, none⟩ = some wa := cell_of_row w1 _ 1 _ 53 (0, 0) e1
       have g0 : w1.cell? ⟨Z, 0, none⟩ = some fr := cell_of_row w1 _ 0 _ 53 (0, 0) e1
       have HS := hide (show (w1.setCell ⟨Z, 0, none⟩ (.slice q1 (xs.length + 1) k1)).heap.size = w1.heap.size by simp)
       have HP := hide ((unhide H).put0 r1 r2 r3)
       have HR3 := hide r3
       clear r1 r2 r3 e1)
    | (at_builtin; refine wp_push22 rfl (.tmp 20) (.tmp 22) rfl (by rfl) (by rw [unhide HS]; rfl) (unhide HP).1.a (by omega) ?_; intro q2 k2 w2 r1 r2 r3
       have e1 := (r2.block Z (lt_of_row (unhide HP).1.blk) (unhide HP).1.aZ).trans (unhide HP).1.blk
       have fz2 : w2.frozen? ⟨Z, 1, none⟩ = false := by simp [World.frozen?, e1]
       have g2 : w2.cell? ⟨Z, 1, none⟩ = some wa := cell_of_row w2 _ 1 _ 53 (0, 0) e1
       have HP2 := hide ((unhide HP).1.put1 r1 r2 r3)
       have HR4 := hide r3
       clear r1 r2 r3 e1)
    | fail)
  go_end0
  have hO := (unhide HP).2
  refine ⟨rfl, _, _, (unhide HP2).1, ?_, unhide HR3, fun k hk => ?_⟩
  · refine (hO.mono (fun k _ q => q.elim .inl (fun q => .inr (.inl q)))).trans (unhide HP2).2 (fun k _ q => q.elim .inl (fun q => .inr (.inr q)))
  · rcases unhide HR4 k hk with q | q
    · exact .inl q
    · exact .inr (Nat.le_trans hO.size q)
end Go.Proofs.YthlacailhfhjnaaGreatDoor
/- What is read line by line is what the machine reads byte by byte. -/
namespace Go.Proofs.YthlacailhfhjnaaGreatDoor
open Go.Lib
abbrev Rs := Option (Except Nat (Ps × Bs))
/-- Byte by byte: not whole yet; what is wrong; what was read, and what stands behind it. -/
def sc (op : Bs → Option Fst) : Ps → Bs → Rs
  | _, [] => none
  | p, b :: s => if (step op p b).2 ≠ 0 then some (.error (step op p b).2) else if (step op p b).1.st = 3 then some (.ok ((step op p b).1, s)) else sc op (step op p b).1 s
theorem sc_run {op : Bs → Option Fst} {p q : Ps} {s : Bs} (h : run op p s = some q) (t : Bs) : sc op p (s ++ t) = sc op q t := by
  induction s generalizing p with
  | nil => simp [run] at h; subst h; rfl
  | cons b s ih =>
    simp only [run] at h
    split at h
    · rename_i hc
      simp only [List.cons_append, sc]
      rw [if_neg (by simp [hc.1]), if_neg hc.2]
      exact ih h
    · simp at h
theorem sc_none {op : Bs → Option Fst} {p : Ps} {s : Bs} (h : sc op p s = none) : ∃ q, run op p s = some q := by
  induction s generalizing p with
  | nil => exact ⟨p, rfl⟩
  | cons b s ih =>
    simp only [sc] at h
    split at h
    · cases h
    · rename_i h1
      split at h
      · cases h
      · rename_i h2
        obtain ⟨q, hq⟩ := ih h
        refine ⟨q, ?_⟩
        simp only [run]
        rw [if_pos ⟨by simpa using h1, h2⟩]
        exact hq
theorem run_sc {op : Bs → Option Fst} {p q : Ps} {s : Bs} (h : run op p s = some q) : sc op p s = none := by
  have := sc_run h []
  rw [List.append_nil] at this
  rw [this]
  rfl
theorem pa_sc (p : Ps) (s : Bs) : pa p s = match sc opA p s with
    | none => .error 56
    | some (.error e) => .error e
    | some (.ok (q, t)) => .ok (⟨q.fs.s, q.hs, q.bd⟩, t) := by
  induction s generalizing p with
  | nil => rfl
  | cons b s ih =>
    simp only [pa, sc]
    split
    · rfl
    · split
      · rfl
      · exact ih _
/-- Behind a line: a body, or the next line. -/
def nxl (q : Ps) (t : Bs) (k : Rs) : Rs :=
  if q.st = 3 then some (.ok (q, t)) else if q.st = 2 then (if (t.length : Int) < q.len then none else some (.ok ({ q with st := 3, rd := q.rd + q.len.toNat, bd := t.take q.len.toNat }, t.drop q.len.toNat))) else k
/-- Line by line. -/
def rdl (op : Bs → Option Fst) : Nat → Ps → Bs → Rs
  | 0, _, _ => none
  | n + 1, p, s =>
    if 1001 < (hd 10 s).length then some (.error 53) else if (hd 10 s).length < s.length then
      (if (judge op { p with rd := p.rd + (hd 10 s).length + 1, ln := [] } (hd 10 s)).2 ≠ 0 then some (.error (judge op { p with rd := p.rd + (hd 10 s).length + 1, ln := [] } (hd 10 s)).2)
      else nxl (judge op { p with rd := p.rd + (hd 10 s).length + 1, ln := [] } (hd 10 s)).1 (tl 10 s) (rdl op n (judge op { p with rd := p.rd + (hd 10 s).length + 1, ln := [] } (hd 10 s)).1 (tl 10 s)))
    else none
theorem hd_split (c : UInt8) (s : Bs) : (∀ x ∈ hd c s, x ≠ c) ∧ (((hd c s).length < s.length ∧ s = hd c s ++ c :: tl c s) ∨ ((hd c s).length = s.length ∧ hd c s = s)) := by
  induction s with
  | nil => exact ⟨fun x h => by simp [hd] at h, .inr ⟨rfl, rfl⟩⟩
  | cons b s ih =>
    by_cases h : b = c
    · subst h
      have e1 : hd b (b :: s) = [] := by simp [hd]
      have e2 : tl b (b :: s) = s := by simp [tl]
      rw [e1, e2]
      exact ⟨fun x h => by simp at h, .inl ⟨by simp, rfl⟩⟩
    · have e1 : hd c (b :: s) = b :: hd c s := by simp [hd, h]
      have e2 : tl c (b :: s) = tl c s := by simp [tl, h]
      rw [e1, e2]
      refine ⟨fun x hx => ?_, ?_⟩
      · rcases List.mem_cons.1 hx with rfl | hx
        · exact h
        · exact ih.1 x hx
      · rcases ih.2 with ⟨q1, q2⟩ | ⟨q1, q2⟩
        · exact .inl ⟨by simpa using q1, by rw [List.cons_append, ← q2]⟩
        · exact .inr ⟨by simpa using q1, by rw [q2]⟩
/-- A line that is too long. -/
theorem sc_long (op : Bs → Option Fst) (p : Ps) (l t : Bs) (hp : p.st ≤ 1) (h0 : p.ln = []) (hl : ∀ x ∈ l, x ≠ 10) (hn : 1001 < l.length) : sc op p (l ++ t) = some (.error 53) := by
  have e : l = l.take 1001 ++ l[1001] :: l.drop 1002 := by
    rw [← List.drop_eq_getElem_cons hn, List.take_append_drop]
  have h1 := run_line op (l.take 1001) p hp (fun x hx => hl x (List.mem_of_mem_take hx)) (by rw [h0, List.length_take]; simp; omega)
  have hb : l[1001] ≠ 10 := hl _ (List.getElem_mem hn)
  rw [e, List.append_assoc, sc_run h1, List.cons_append]
  simp only [sc]
  have hs : (step op { p with rd := p.rd + (l.take 1001).length, ln := p.ln ++ l.take 1001 } l[1001]) = (pov, 53) := by
    unfold step
    rw [if_pos (by exact hp), if_neg hb, if_pos (by simp [h0]; omega)]
  rw [hs]
  rfl
/-- A body. -/
theorem sc_body (op : Bs → Option Fst) (q : Ps) (t : Bs) (h2 : q.st = 2) (hb : q.bd = []) (hl : 0 < q.len) : sc op q t = if (t.length : Int) < q.len then none else some (.ok ({ q with st := 3, rd := q.rd + q.len.toNat, bd := t.take q.len.toNat }, t.drop q.len.toNat)) := by
  by_cases h : (t.length : Int) < q.len
  · rw [if_pos h]
    have := run_body op t q h2 (by rw [hb]; simpa using h)
    exact run_sc this
  · rw [if_neg h]
    obtain ⟨n, hn⟩ : ∃ n : Nat, q.len = ((n + 1 : Nat) : Int) := ⟨q.len.toNat - 1, by omega⟩
    have hnt : n < t.length := by omega
    have e : t = t.take n ++ t[n] :: t.drop (n + 1) := by rw [← List.drop_eq_getElem_cons hnt, List.take_append_drop]
    have h1 := run_body op (t.take n) q h2 (by rw [hb, List.length_take]; simp; omega)
    have hs : step op { q with rd := q.rd + (t.take n).length, bd := q.bd ++ t.take n } t[n] = ({ q with st := 3, rd := q.rd + q.len.toNat, bd := t.take q.len.toNat }, 0) := by
      unfold step
      rw [if_neg (by show ¬ q.st ≤ 1; omega), if_pos (by simp [hb, hn]; omega)]
      have e3 : q.len.toNat = n + 1 := by omega
      rw [e3, hb, List.nil_append, List.take_succ_eq_append_getElem hnt, List.length_take]
      simp
      omega
    conv => lhs; rw [e, sc_run h1]
    simp only [sc]
    rw [hs]
    have e3 : q.len.toNat = n + 1 := by omega
    rw [e3]
    rfl
theorem jLen_bd (p : Ps) (v : Bs) (h : (jLen p v).2 = 0) : (jLen p v).1.bd = p.bd := by
  unfold jLen at h ⊢
  split
  · rename_i h1; rw [if_pos h1] at h; simp at h
  · split
    · rename_i h1 h2; rw [if_neg h1, if_pos h2] at h; simp at h
    · rfl
theorem jHdr_bd (p : Ps) (l : Bs) (r : Bool) (h : (jHdr p l r).2 = 0) : (jHdr p l r).1.bd = p.bd := by
  unfold jHdr at h ⊢
  split
  · rename_i h1; rw [if_pos h1] at h; simp at h
  · rename_i h1
    rw [if_neg h1] at h
    split
    · rename_i h2
      rw [if_pos h2] at h
      exact jLen_bd p _ h
    · rename_i h2
      rw [if_neg h2] at h
      split
      · rename_i h3; rw [if_pos h3] at h; simp at h
      · rfl
theorem jdg_ok (op : Bs → Option Fst) (p : Ps) (e : Bs) (hp : p.st ≤ 1) (h : (judge op p e).2 = 0) : (judge op p e).1.ln = p.ln ∧ (judge op p e).1.bd = p.bd ∧ ((judge op p e).1.st = 2 → 0 < (judge op p e).1.len) ∧ (judge op p e).1.st ≤ 3 := by
  unfold judge at h ⊢
  split
  · rename_i h1
    rw [if_pos h1] at h
    unfold jFst at h ⊢
    split
    · rename_i h2; rw [h2] at h; simp at h
    · rename_i h2
      rw [h2] at h
      split
      · exact ⟨rfl, rfl, fun q => by simp at q, by simp⟩
      · rename_i h3; simp [h3] at h
  · rename_i h1
    rw [if_neg h1] at h
    split
    · unfold jEnd
      split
      · exact ⟨rfl, rfl, fun q => by simp at q, by simp⟩
      · rename_i h3
        exact ⟨rfl, rfl, fun _ => by simpa using h3, by simp⟩
    · rename_i h2
      rw [if_neg h2] at h
      have h3 := jHdr_rd p _ _ h
      exact ⟨h3.2.2, jHdr_bd p _ _ h, fun q => by rw [h3.2.1] at q; omega, by rw [h3.2.1]; omega⟩
/-- Line by line or byte by byte: the same. -/
theorem sc_rdl (op : Bs → Option Fst) : ∀ (n : Nat) (p : Ps) (s : Bs), p.st ≤ 1 → p.ln = [] → p.bd = [] → s.length < n → sc op p s = rdl op n p s
  | 0, _, _, _, _, _, h => absurd h (by omega)
  | n + 1, p, s, hp, h0, hb, hn => by
    obtain ⟨hne, hs⟩ := hd_split 10 s
    unfold rdl
    by_cases hlong : 1001 < (hd 10 s).length
    · rw [if_pos hlong]
      rcases hs with ⟨_, e⟩ | ⟨_, e⟩
      · conv => lhs; rw [e]
        exact sc_long op p _ _ hp h0 hne hlong
      · have := sc_long op p (hd 10 s) [] hp h0 hne hlong
        rw [List.append_nil, e] at this
        exact this
    · rw [if_neg hlong]
      have h1 := run_line op (hd 10 s) p hp hne (by rw [h0]; simp; omega)
      rcases hs with ⟨hlt, e⟩ | ⟨hlt, e⟩
      · rw [if_pos hlt]
        have hlen : (tl 10 s).length < n := by
          have := congrArg List.length e
          simp at this
          omega
        have hst : step op { p with rd := p.rd + (hd 10 s).length, ln := p.ln ++ hd 10 s } 10 = judge op { p with rd := p.rd + (hd 10 s).length + 1, ln := [] } (hd 10 s) := by
          unfold step
          rw [if_pos (by exact hp), if_pos rfl, h0]
          simp
        conv => lhs; rw [e, sc_run h1]
        simp only [sc]
        rw [hst]
        have hj := jdg_ok op { p with rd := p.rd + (hd 10 s).length + 1, ln := [] } (hd 10 s) (by exact hp)
        generalize judge op { p with rd := p.rd + (hd 10 s).length + 1, ln := [] } (hd 10 s) = J at *
        by_cases h2 : J.2 = 0
        · have h2' : ¬ J.2 ≠ 0 := by simp [h2]
          rw [if_neg h2', if_neg h2']
          obtain ⟨j1, j2, j3, j4⟩ := hj h2
          unfold nxl
          by_cases h3 : J.1.st = 3
          · rw [if_pos h3, if_pos h3]
          · rw [if_neg h3, if_neg h3]
            by_cases h4 : J.1.st = 2
            · rw [if_pos h4]
              exact sc_body op J.1 _ h4 (by rw [j2]; exact hb) (j3 h4)
            · rw [if_neg h4]
              exact sc_rdl op n J.1 _ (by omega) j1 (by rw [j2]; exact hb) hlen
        · rw [if_pos h2, if_pos h2]
      · rw [if_neg (by omega)]
        rw [e] at h1
        exact run_sc h1
end Go.Proofs.YthlacailhfhjnaaGreatDoor
