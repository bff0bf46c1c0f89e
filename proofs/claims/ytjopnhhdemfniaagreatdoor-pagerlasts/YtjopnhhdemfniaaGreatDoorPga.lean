import Derived.Test.YtjopnhhdemfniaaGreatDoorZwrta
import Derived.Test.YtjopnhhdemfniaaGreatDoorZhnu
/- Pages and heads as bytes, of lists alone. -/
namespace Go.Proofs.YtjopnhhdemfniaaGreatDoor
structure Pg where
  kind : Int
  number : Int
  birth : Int
  links : List Int
  body : Bs
def isPg (n : Int) : Bool := decide (2 ≤ n) && decide (n < 4096)
def isGn (n : Int) : Bool := decide (1 ≤ n) && decide (n ≤ 4611686018427387904)
def Pg.fresh (p : Pg) : Bool := decide (4 * p.links.length + p.body.length ≤ 488) && decide (1 ≤ p.kind) && decide (p.kind ≤ 255) && isPg p.number && p.links.all isPg
def Pg.may (p : Pg) : Bool := isGn p.birth && p.fresh
def Pg.head (p : Pg) : Bs := [76, 80] ++ be 1 p.kind.toNat ++ be 1 p.links.length ++ be 4 p.number.toNat ++ be 8 p.birth.toNat ++ be 2 p.body.length ++ be 2 0
def lks (l : List Int) : Bs := l.flatMap fun n => be 4 n.toNat
def Pg.text (p : Pg) : Bs := p.head ++ lks p.links ++ p.body
def fil (s : Bs) (n : Nat) : Bs := s ++ List.replicate (n - s.length) 0
def chk (s : Bs) : Bs := s ++ be 4 (crc s).toNat
def Pg.blk (p : Pg) : Bs := chk (fil p.text 508)
theorem lks_len (l : List Int) : (lks l).length = 4 * l.length := by
  unfold lks
  induction l with
  | nil => rfl
  | cons n l ih => simp only [List.flatMap_cons, List.length_append, be_len, ih, List.length_cons]; omega
theorem Pg.head_len (p : Pg) : p.head.length = 20 := by simp [Pg.head, be_len]
theorem Pg.text_len (p : Pg) : p.text.length = 20 + 4 * p.links.length + p.body.length := by
  unfold Pg.text
  rw [List.length_append, List.length_append, p.head_len, lks_len]
theorem chk_len (s : Bs) : (chk s).length = s.length + 4 := by simp [chk, be_len]
theorem fil_len (s : Bs) (n : Nat) (h : s.length ≤ n) : (fil s n).length = n := by simp [fil]; omega
theorem Pg.fresh_room {p : Pg} (h : p.fresh = true) : 4 * p.links.length + p.body.length ≤ 488 := by
  simp only [Pg.fresh, Bool.and_eq_true, decide_eq_true_eq] at h
  exact h.1.1.1.1
theorem Pg.may_fresh {p : Pg} (h : p.may = true) : p.fresh = true := by
  simp only [Pg.may, Bool.and_eq_true] at h
  exact h.2
theorem Pg.blk_len {p : Pg} (h : p.may = true) : p.blk.length = 512 := by
  have := Pg.fresh_room (Pg.may_fresh h)
  unfold Pg.blk
  rw [chk_len, fil_len]
  rw [p.text_len]
  omega
/-- What a block seems to say. -/
def gsl (s : Bs) (n : Nat) : List Int := (List.range n).map fun i => (nat ((s.drop (20 + 4 * i)).take 4) : Int)
def gsn (s : Bs) : Nat := nat ((s.drop 3).take 1)
def gs (s : Bs) : Pg := ⟨nat ((s.drop 2).take 1), nat ((s.drop 4).take 4), nat ((s.drop 8).take 8), gsl s (gsn s), (s.drop (20 + 4 * gsn s)).take (nat ((s.drop 16).take 2))⟩
theorem mid (a b c : Bs) (n k : Nat) (ha : a.length = n) (hb : b.length = k) : ((a ++ (b ++ c)).drop n).take k = b := by
  subst ha hb
  simp
theorem be_int (k : Nat) (n : Int) (h0 : 0 ≤ n) (h : n < 256 ^ k) : ((nat (be k n.toNat) : Nat) : Int) = n := by
  rw [nat_be, Nat.mod_eq_of_lt]
  · omega
  · have : ((256 ^ k : Nat) : Int) = (256 : Int) ^ k := by simp
    omega
theorem lks_at (l : List Int) (i : Nat) (hi : i < l.length) (c : Bs) : ((lks l ++ c).drop (4 * i)).take 4 = be 4 (l.getD i 0).toNat := by
  induction l generalizing i with
  | nil => simp at hi
  | cons n l ih =>
    have e : lks (n :: l) = be 4 n.toNat ++ lks l := rfl
    cases i with
    | zero =>
      rw [e, List.append_assoc]
      exact mid [] _ _ 0 4 rfl (be_len 4 _)
    | succ i =>
      rw [e, List.append_assoc, show 4 * (i + 1) = (be 4 n.toNat).length + 4 * i by rw [be_len]; omega, ← List.drop_drop, List.drop_left]
      simpa using ih i (by simpa using hi)
theorem Pg.form (p : Pg) : p.blk = [76, 80] ++ (be 1 p.kind.toNat ++ (be 1 p.links.length ++ (be 4 p.number.toNat ++ (be 8 p.birth.toNat ++ (be 2 p.body.length ++ (be 2 0 ++ (lks p.links ++ (p.body ++ (List.replicate (508 - p.text.length) 0 ++ be 4 (crc (fil p.text 508)).toNat))))))))) := by
  unfold Pg.blk chk fil Pg.text Pg.head
  simp only [List.append_assoc]
theorem gs_blk (p : Pg) (h : p.may = true) : gs p.blk = p := by
  have hr := Pg.fresh_room (Pg.may_fresh h)
  obtain ⟨k, n, b, l, x⟩ := p
  simp only [Pg.may, Pg.fresh, isPg, isGn, Bool.and_eq_true, decide_eq_true_eq] at h hr
  obtain ⟨⟨b1, b2⟩, ⟨⟨⟨h1, h2⟩, h3⟩, n1, n2⟩, hl⟩ := h
  generalize hs : Pg.blk ⟨k, n, b, l, x⟩ = s
  have F := Pg.form ⟨k, n, b, l, x⟩
  rw [hs] at F
  generalize hz : (List.replicate (508 - (Pg.text ⟨k, n, b, l, x⟩).length) 0 ++ be 4 (crc (fil (Pg.text ⟨k, n, b, l, x⟩) 508)).toNat) = z at F
  simp only at F
  clear hz
  have e2 : (s.drop 2).take 1 = be 1 k.toNat := by rw [F]; exact mid _ _ _ 2 1 rfl (be_len _ _)
  have e3 : (s.drop 3).take 1 = be 1 l.length := by
    rw [F, ← List.append_assoc]; exact mid _ _ _ 3 1 (by simp [be_len]) (be_len _ _)
  have e4 : (s.drop 4).take 4 = be 4 n.toNat := by
    rw [F, ← List.append_assoc, ← List.append_assoc]; exact mid _ _ _ 4 4 (by simp [be_len]) (be_len _ _)
  have e8 : (s.drop 8).take 8 = be 8 b.toNat := by
    rw [F, ← List.append_assoc, ← List.append_assoc, ← List.append_assoc]; exact mid _ _ _ 8 8 (by simp [be_len]) (be_len _ _)
  have e16 : (s.drop 16).take 2 = be 2 x.length := by
    rw [F, ← List.append_assoc, ← List.append_assoc, ← List.append_assoc, ← List.append_assoc]; exact mid _ _ _ 16 2 (by simp [be_len]) (be_len _ _)
  have e20 : s.drop 20 = lks l ++ (x ++ z) := by
    rw [F, ← List.append_assoc, ← List.append_assoc, ← List.append_assoc, ← List.append_assoc, ← List.append_assoc, ← List.append_assoc]
    exact List.drop_left' (by simp [be_len])
  have c1 : nat (be 1 l.length) = l.length := by rw [nat_be, Nat.mod_eq_of_lt]; omega
  have c2 : nat (be 2 x.length) = x.length := by rw [nat_be, Nat.mod_eq_of_lt]; omega
  have eb : (s.drop (20 + 4 * l.length)).take x.length = x := by
    rw [← List.drop_drop, e20]
    exact mid _ _ _ _ _ (lks_len l) rfl
  have el : gsl s l.length = l := by
    apply List.ext_getElem
    · simp [gsl]
    · intro i i1 i2
      have hi : isPg l[i] = true := List.all_eq_true.1 hl _ (List.getElem_mem i2)
      simp only [isPg, Bool.and_eq_true, decide_eq_true_eq] at hi
      simp only [gsl, List.getElem_map, List.getElem_range]
      rw [← List.drop_drop, e20, lks_at l i i2]
      have : l.getD i 0 = l[i] := by simp [i2]
      rw [this]
      exact be_int 4 _ (by omega) (by have := hi.2; omega)
  unfold gs gsn
  rw [e2, e3, e4, e8, e16, c1, c2, eb, el, be_int 1 k (by omega) (by omega), be_int 4 n (by omega) (by omega), be_int 8 b (by omega) (by omega)]
/-- The page whose block a text is. -/
def prs (s : Bs) : Option Pg := if (gs s).may = true ∧ (gs s).blk = s then some (gs s) else none
theorem prs_blk {p : Pg} (h : p.may = true) : prs p.blk = some p := by
  unfold prs
  rw [gs_blk p h, if_pos ⟨h, rfl⟩]
theorem prs_some {s : Bs} {p : Pg} (h : prs s = some p) : p.may = true ∧ p.blk = s := by
  unfold prs at h
  split at h
  · rename_i q
    cases h
    exact q
  · cases h
theorem prs_is {s : Bs} {p : Pg} (h : p.may = true) (hs : p.blk = s) : prs s = some p := by rw [← hs]; exact prs_blk h
theorem prs_len {s : Bs} {p : Pg} (h : prs s = some p) : s.length = 512 := by
  obtain ⟨h1, h2⟩ := prs_some h
  rw [← h2]; exact Pg.blk_len h1
/-- A head. -/
structure Hd where
  gen : Int
  root : Int
  blocks : Int
  note : Bs
def Hd.may (h : Hd) : Bool := isGn h.gen && (decide (8 ≤ h.blocks) && decide (h.blocks ≤ 4096)) && (decide (h.root = 0) || decide (2 ≤ h.root) && decide (h.root < h.blocks)) && decide (h.note.length = 16)
def Hd.text (h : Hd) : Bs := [76, 75, 69, 89] ++ be 8 h.gen.toNat ++ be 4 h.root.toNat ++ be 4 h.blocks.toNat ++ h.note
def Hd.blk (h : Hd) : Bs := fil (chk h.text) 512
def Hd.sec (h : Hd) : Bs := chk h.text ++ List.replicate 24 0
def ghd (s : Bs) : Hd := ⟨nat ((s.drop 4).take 8), nat ((s.drop 12).take 4), nat ((s.drop 16).take 4), (s.drop 20).take 16⟩
theorem Hd.may_note {h : Hd} (m : h.may = true) : h.note.length = 16 := by
  simp only [Hd.may, Bool.and_eq_true, decide_eq_true_eq] at m
  exact m.2
theorem Hd.text_len {h : Hd} (m : h.note.length = 16) : h.text.length = 36 := by simp [Hd.text, be_len, m]
theorem Hd.sec_len {h : Hd} (m : h.note.length = 16) : h.sec.length = 64 := by simp [Hd.sec, chk_len, Hd.text_len m]
theorem Hd.blk_sec {h : Hd} (m : h.note.length = 16) : h.blk = h.sec ++ List.replicate 448 0 := by
  unfold Hd.blk Hd.sec fil
  rw [chk_len, Hd.text_len m, List.append_assoc, List.replicate_append_replicate]
theorem Hd.blk_len {h : Hd} (m : h.note.length = 16) : h.blk.length = 512 := by rw [Hd.blk_sec m, List.length_append, Hd.sec_len m, List.length_replicate]
theorem Hd.blk_take {h : Hd} (m : h.note.length = 16) : h.blk.take 64 = h.sec := by
  rw [Hd.blk_sec m, ← Hd.sec_len m, List.take_left]
theorem ghd_sec (h : Hd) (m : h.may = true) (c : Bs) : ghd (h.sec ++ c) = h := by
  obtain ⟨g, r, b, x⟩ := h
  have hn := Hd.may_note m
  simp only [Hd.may, isGn, Bool.and_eq_true, Bool.or_eq_true, decide_eq_true_eq] at m hn
  obtain ⟨⟨⟨⟨g1, g2⟩, b1, b2⟩, hr⟩, _⟩ := m
  generalize hs : Hd.sec ⟨g, r, b, x⟩ ++ c = s
  have F : s = [76, 75, 69, 89] ++ (be 8 g.toNat ++ (be 4 r.toNat ++ (be 4 b.toNat ++ (x ++ (be 4 (crc (Hd.text ⟨g, r, b, x⟩)).toNat ++ (List.replicate 24 0 ++ c)))))) := by
    rw [← hs]
    unfold Hd.sec chk
    generalize (crc (Hd.text ⟨g, r, b, x⟩)).toNat = z
    unfold Hd.text
    simp only [List.append_assoc]
  generalize (be 4 (crc (Hd.text ⟨g, r, b, x⟩)).toNat ++ (List.replicate 24 0 ++ c)) = z at F
  have e4 : (s.drop 4).take 8 = be 8 g.toNat := by rw [F]; exact mid _ _ _ 4 8 rfl (be_len _ _)
  have e12 : (s.drop 12).take 4 = be 4 r.toNat := by rw [F, ← List.append_assoc]; exact mid _ _ _ 12 4 (by simp [be_len]) (be_len _ _)
  have e16 : (s.drop 16).take 4 = be 4 b.toNat := by rw [F, ← List.append_assoc, ← List.append_assoc]; exact mid _ _ _ 16 4 (by simp [be_len]) (be_len _ _)
  have e20 : (s.drop 20).take 16 = x := by rw [F, ← List.append_assoc, ← List.append_assoc, ← List.append_assoc]; exact mid _ _ _ 20 16 (by simp [be_len]) hn
  unfold ghd
  rw [e4, e12, e16, e20, be_int 8 g (by omega) (by omega), be_int 4 r (by omega) (by omega), be_int 4 b (by omega) (by omega)]
/-- The head with whose sector a block begins. -/
def phd (s : Bs) : Option Hd := if s.length = 512 ∧ (ghd s).may = true ∧ (ghd s).sec = s.take 64 then some (ghd s) else none
theorem phd_is {s : Bs} {h : Hd} (hl : s.length = 512) (m : h.may = true) (e : h.sec = s.take 64) : phd s = some h := by
  have e1 : ghd s = h := by
    have := ghd_sec h m (s.drop 64)
    rwa [e, List.take_append_drop] at this
  unfold phd
  rw [e1, if_pos ⟨hl, m, e⟩]
theorem phd_some {s : Bs} {h : Hd} (q : phd s = some h) : s.length = 512 ∧ h.may = true ∧ h.sec = s.take 64 := by
  unfold phd at q
  split at q
  · rename_i u
    cases q
    exact u
  · cases q
theorem phd_blk {h : Hd} (m : h.may = true) : phd h.blk = some h := phd_is (Hd.blk_len (Hd.may_note m)) m (Hd.blk_take (Hd.may_note m)).symm
end Go.Proofs.YtjopnhhdemfniaaGreatDoor
