import Derived.Test.YtpidmpefodnffaaGreatDoorZrgzd
import Derived.Test.YtpidmpefodnffaaGreatDoorZld
import Derived.Maps.AppendAt
namespace Go.Proofs.YtpidmpefodnffaaGreatDoor
open Go.RowKit Go.Lib
set_option maxHeartbeats 4000000
set_option maxRecDepth 8000
/-- A pair is stored in the midst of a row of pairs. -/
theorem wp_st30o {ops : Array Oper} {rest : List Oper} {o : Oper} {a : Act} {w : World} {Q : Exit → Act → World → Prop} (hgd : o.guard = none) (x y : Operand) (ho : o.op = .store 30 x y)
    (P f : Nat) (hx : a.eval x = .pointer (some ⟨P, f, none⟩)) (k v : Bs) (hy : a.eval y = .agg #[S k, S v]) (old : Array Value) (hle : f + 2 ≤ old.size) (hg : w.heap[P]? = some (.cells old 30 (0, 0)))
    (new : Array Value) (hnew : (old.toList.take f ++ [S k, S v] ++ old.toList.drop (f + 2)).toArray = new)
    (h : wpList Tryz.prog ops Q rest (a.put o.dst undef) (w.setRow P new)) : wpList Tryz.prog ops Q (o :: rest) a w := by
  refine wpList_plain hgd fun K hK => ?_
  have hr := s_sta (T := 30) (n := 2) (fun _ => by kernel_rfl) (g := P) (o := f) hg (.agg #[S k, S v]) rfl hle (by intro z hz; simp [Value.cells] at hz; rcases hz with rfl | rfl <;> rfl)
  have he : (execOp a.eval o).run Tryz.prog w = .ok .skip (w.setRow P new) := by
    rw [← hnew]
    exact g_store ho hx hy hr
  unfold Oper.wp
  rw [he]
  exact hK _ _ h
theorem info30 : (Tryz.prog.info? 30).map (fun i => (i.zero, i.size, i.bytes)) = some (some (.agg #[.string ⟨#[]⟩, .string ⟨#[]⟩]), 2, 32) := by kernel_rfl
def OV : Bs := [111, 118, 101, 114]
/-- k = append(k, over, over, over): every block but its own stands. -/
theorem pushP {ops : Array Oper} {rest : List Oper} {o : Oper} {a : Act} {Q : Exit → Act → World → Prop} (hgd : o.guard = none) (s x : Operand)
    (ho : o.op = .call { callee := .builtin .append, args := #[s, x], argTypes := #[43, 43] }) (v : Value) (n : Nat) (xs : List Value) (hs : a.eval s = v) (w0 : World) (hb : w0.ownsRow 0 30 2 v n xs)
    (hx : a.eval x = .slice (some ⟨w0.heap.size, 0, none⟩) 3 3) (hL : n ≤ 1000)
    (h : ∀ p c w', (w0.alloc (.cells #[S OV, S [], S OV, S [], S OV, S []] 30)).grownBy w' v.ownBlock → wpList Tryz.prog ops Q rest (a.put o.dst (.slice p (n + 3) c)) w') : wpList Tryz.prog ops Q (o :: rest) a (w0.alloc (.cells #[S OV, S [], S OV, S [], S OV, S []] 30)) := by
  obtain ⟨i0, hi, hz0, hz1, hz2⟩ := info_parts info30
  have hkeep : (w0.alloc (.cells #[S OV, S [], S OV, S [], S OV, S []] 30)).ownsRow 0 30 2 v n xs := by
    refine ⟨hb.1, ?_⟩
    rcases hb.2 with q | ⟨g, cap, cur, e1, e2, e3, e4⟩
    · exact .inl q
    · exact .inr ⟨g, cap, cur, e1, e2, (Below.heap_alloc w0 _ g (lt_heap e3)).trans e3, e4⟩
  refine wpList_append_own _ hgd s x 43 ho 0 30 i0 (.agg #[.string ⟨#[]⟩, .string ⟨#[]⟩]) 2 32 Tryz.underlying43 hi hz0 hz1 hz2 rfl (by decide) v n xs hs hkeep ⟨w0.heap.size, 0, none⟩ 3 3 [S OV, S [], S OV, S [], S OV, S []] hx rfl ?_ ?_ (by unfold maxLen; omega) (by omega) (Nat.zero_le _) ?_
  · intro j u hj
    have hadd : (⟨w0.heap.size, 0, none⟩ : Addr).add j = ⟨w0.heap.size, j, none⟩ := by unfold Addr.add; split <;> simp_all
    rw [hadd, cell_of_row _ _ _ _ 30 (0, 0) (heap_alloc_new _ _), ← hj]
    simp
  · intro u hu
    simp at hu
    rcases hu with rfl | rfl | rfl | rfl | rfl | rfl <;> rfl
  · intro v' w' ho' hg _
    rcases ho'.2 with ⟨_, q⟩ | ⟨g, cap, cur, e1, _⟩
    · omega
    · rw [e1]
      exact h _ _ _ hg
/-- Boxes stand when a row beside them has grown. -/
theorem Kpr.grown {l : List (Nat × Array Value × TypeId)} {W w' : World} {ob : Obj} {own : Option Nat} (h : Kpr l W) (hg : (W.alloc ob).grownBy w' own) (hne : ∀ q, q ∈ l → some q.1 ≠ own) : Kpr l w' := fun q hq => by
  have hlt := lt_of_row (h q hq)
  have hsz : (W.alloc ob).heap.size = W.heap.size + 1 := by simp
  exact (hg.block q.1 (by omega) (hne q hq)).trans ((Below.heap_alloc W _ q.1 hlt).trans (h q hq))
theorem below_grown {B : Nat} {w W w' : World} {ob : Obj} {own : Option Nat} (h : Below B w W) (hB : B ≤ W.heap.size) (hg : (W.alloc ob).grownBy w' own) (ho : ∀ p, own = some p → B ≤ p) : Below B w w' := by
  have hsz : (W.alloc ob).heap.size = W.heap.size + 1 := by simp
  refine h.trans ⟨hg.os, hg.tape, hg.output, by have := hg.size; omega, fun k hk => ?_⟩
  have hne : own ≠ some k := fun e => by have := ho k e; omega
  exact (hg.block k (by omega) (Ne.symm hne)).trans (Below.heap_alloc W _ k (by omega))
/-- The pairs, of which so many are written over. -/
def ovr (k1 k2 : Bs) (j : Nat) : Array Value := if j = 0 then #[S k1, S [], S k2, S []] else if j = 1 then #[S OV, S [], S k2, S []] else #[S OV, S [], S OV, S []]
theorem owns_pairs {W : World} {p : Nat} {c0 c1 c2 c3 : Value} (h : W.heap[p]? = some (.cells #[c0, c1, c2, c3] 30 (0, 0))) : W.ownsRow 0 30 2 (.slice (some ⟨p, 0, none⟩) 2 2) 2 [c0, c1, c2, c3] :=
  ⟨rfl, .inr ⟨p, 2, _, rfl, Nat.zero_le _, h, Nat.le_refl _, by unfold maxLen; omega, rfl, rfl⟩⟩
/-- The pairs that OfFamily answers, or none. -/
def KR (B : Nat) (k1 k2 : Bs) (n : Nat) (kp : Option Addr) (W : World) : Prop := (n = 0 ∧ kp = none) ∨ (n = 2 ∧ ∃ p, kp = some ⟨p, 0, none⟩ ∧ B ≤ p ∧ W.heap[p]? = some (.cells #[S k1, S [], S k2, S []] 30 (0, 0)))
theorem KR.below {B : Nat} {k1 k2 : Bs} {n : Nat} {kp : Option Addr} {W W' : World} (h : KR B k1 k2 n kp W) (hb : Below W.heap.size W W') : KR B k1 k2 n kp W' := by
  rcases h with h | ⟨h1, p, h2, h3, h4⟩
  · exact .inl h
  · exact .inr ⟨h1, p, h2, h3, (hb.block _ (lt_of_row h4)).trans h4⟩
theorem ofF_KR {B : Nat} {OK : Bool} {k1 k2 : Bs} {e : Ending} {w' : World} (h : ofz.OfF B OK k1 [] k2 [] e w') : ∃ kp, e = .returned (.tuple #[.slice kp (if OK then 2 else 0) (if OK then 2 else 0), I (if OK then 0 else 140 : Nat)]) ∧ KR B k1 k2 (if OK then 2 else 0) kp w' := by
  cases OK
  · exact ⟨none, h, .inl ⟨rfl, rfl⟩⟩
  · obtain ⟨p, h1, h2, h3⟩ := h
    exact ⟨some ⟨p, 0, none⟩, h2, .inr ⟨rfl, p, rfl, h1, h3⟩⟩
/-- While the program's pairs are written over, beside the document's. -/
def KL (B : Nat) (k1 k2 : Bs) (n : Nat) (kp mp : Option Addr) (j : Nat) (bx : List Nat) (W : World) : Prop := (n = 0 ∧ kp = none ∧ mp = none) ∨ (n = 2 ∧ ∃ p m, kp = some ⟨p, 0, none⟩ ∧ mp = some ⟨m, 0, none⟩ ∧ B ≤ p ∧ m ≠ p ∧ (∀ x ∈ bx, x ≠ p) ∧ W.heap[p]? = some (.cells (ovr k1 k2 j) 30 (0, 0)) ∧ W.heap[m]? = some (.cells #[S k1, S [], S k2, S []] 30 (0, 0)))
theorem KL.start {B b1 b2 : Nat} {k1 k2 : Bs} {n : Nat} {kp mp : Option Addr} {W1 W : World} {bx : List Nat} (h1 : KR b1 k1 k2 n kp W1) (hb : Below W1.heap.size W1 W) (h2 : KR b2 k1 k2 n mp W) (hB : B ≤ b1) (h12 : W1.heap.size ≤ b2) (hbx : ∀ x ∈ bx, x < b1) : KL B k1 k2 n kp mp 0 bx W := by
  rcases h1 with ⟨a1, a2⟩ | ⟨a1, p, a2, a3, a4⟩
  · rcases h2 with ⟨_, b2⟩ | ⟨b1, _⟩
    · exact .inl ⟨a1, a2, b2⟩
    · omega
  · rcases h2 with ⟨b1, _⟩ | ⟨_, m, b2, b3, b4⟩
    · omega
    · have := lt_of_row a4
      exact .inr ⟨a1, p, m, a2, b2, by omega, by omega, fun x hx => by have := hbx x hx; omega, (hb.block _ (lt_of_row a4)).trans a4, b4⟩
theorem KL.below {B : Nat} {k1 k2 : Bs} {n : Nat} {kp mp : Option Addr} {j : Nat} {bx : List Nat} {W W' : World} (h : KL B k1 k2 n kp mp j bx W) (hb : Below W.heap.size W W') : KL B k1 k2 n kp mp j bx W' := by
  rcases h with h | ⟨h1, p, m, h2, h3, h4, h5, h6, h7, h8⟩
  · exact .inl h
  · exact .inr ⟨h1, p, m, h2, h3, h4, h5, h6, (hb.block _ (lt_of_row h7)).trans h7, (hb.block _ (lt_of_row h8)).trans h8⟩
theorem KL.owns {B : Nat} {k1 k2 : Bs} {n : Nat} {kp mp : Option Addr} {j : Nat} {bx : List Nat} {W : World} (h : KL B k1 k2 n kp mp j bx W) : ∃ xs, W.ownsRow 0 30 2 (.slice kp n n) n xs := by
  rcases h with ⟨rfl, rfl, _⟩ | ⟨rfl, p, m, rfl, _, _, _, _, h7, _⟩
  · exact ⟨[], World.ownsRow_nil _ _ _ _⟩
  · unfold ovr at h7
    split at h7
    · exact ⟨_, owns_pairs h7⟩
    · split at h7 <;> exact ⟨_, owns_pairs h7⟩
theorem KL.own {B : Nat} {k1 k2 : Bs} {n : Nat} {kp mp : Option Addr} {j : Nat} {bx : List Nat} {W : World} (h : KL B k1 k2 n kp mp j bx W) : ∀ p, (Value.slice kp n n).ownBlock = some p → B ≤ p ∧ (∀ x ∈ bx, x ≠ p) ∧ ∀ m, mp = some ⟨m, 0, none⟩ → m ≠ p := by
  intro p hp
  rcases h with ⟨rfl, rfl, _⟩ | ⟨rfl, p', m, rfl, rfl, h4, h5, h6, _⟩
  · cases hp
  · have : p' = p := by simpa [Value.ownBlock] using hp
    subst this
    exact ⟨h4, h6, fun m' e => by cases e; exact h5⟩
/-- The document's pairs alone. -/
theorem KL.mine {B : Nat} {k1 k2 : Bs} {n : Nat} {kp mp : Option Addr} {j : Nat} {bx : List Nat} {W : World} (h : KL B k1 k2 n kp mp j bx W) : KR 0 k1 k2 n mp W := by
  rcases h with ⟨h1, _, h3⟩ | ⟨h1, p, m, _, h3, _, _, _, _, h8⟩
  · exact .inl ⟨h1, h3⟩
  · exact .inr ⟨h1, m, h3, Nat.zero_le _, h8⟩
theorem KR.grown {B : Nat} {k1 k2 : Bs} {n : Nat} {kp : Option Addr} {W w' : World} {ob : Obj} {own : Option Nat} (h : KR B k1 k2 n kp W) (hg : (W.alloc ob).grownBy w' own) (hne : ∀ p, own = some p → ∀ m, kp = some ⟨m, 0, none⟩ → m ≠ p) : KR B k1 k2 n kp w' := by
  rcases h with h | ⟨h1, p, h2, h3, h4⟩
  · exact .inl h
  · have hsz : (W.alloc ob).heap.size = W.heap.size + 1 := by simp
    have hlt := lt_of_row h4
    exact .inr ⟨h1, p, h2, h3, (hg.block p (by omega) (fun e => hne p e.symm p h2 rfl)).trans ((Below.heap_alloc W _ p hlt).trans h4)⟩
theorem blk_grown {g : Nat} {l : List Bs} {W w' : World} {ob : Obj} {own : Option Nat} (h : Blk g l W) (hg : (W.alloc ob).grownBy w' own) (hne : own ≠ some g) : Blk g l w' := by
  have hsz : (W.alloc ob).heap.size = W.heap.size + 1 := by simp
  have hlt := h.lt
  exact (hg.block g (by omega) (Ne.symm hne)).trans ((Below.heap_alloc W _ g hlt).trans h)
end Go.Proofs.YtpidmpefodnffaaGreatDoor
