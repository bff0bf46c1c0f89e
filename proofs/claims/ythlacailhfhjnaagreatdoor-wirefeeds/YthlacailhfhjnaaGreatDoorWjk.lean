import Derived.Test.YthlacailhfhjnaaGreatDoorWjj
import Derived.Test.YthlacailhfhjnaaGreatDoorZwdr
import Derived.Test.YthlacailhfhjnaaGreatDoorWea
import Derived.Test.YthlacailhfhjnaaGreatDoorZwdo
import Derived.Test.YthlacailhfhjnaaGreatDoorWcp
import Derived.Test.YthlacailhfhjnaaGreatDoorZwde
import Derived.Test.YthlacailhfhjnaaGreatDoorZdetl
import Derived.Test.YthlacailhfhjnaaGreatDoorZwbd
import Derived.Test.YthlacailhfhjnaaGreatDoorRgs
namespace Go.Proofs.YthlacailhfhjnaaGreatDoor
open Go.RowKit Go.Lib
def pc0 : Int × Bs := (0, [])
/-- Pieces, one behind the other in memory. -/
def Pcs (w : World) (a : Option Addr) (n : Nat) (ps : List (Int × Bs)) : Prop :=
  n = ps.length ∧ (0 < n → ∃ g q, a = some ⟨g, q, none⟩ ∧ ∀ j, j < n → w.cell? ⟨g, q + j * 2, none⟩ = some (.int .i64 (ps.getD j pc0).1) ∧ w.cell? ⟨g, q + j * 2 + 1, none⟩ = some (S (ps.getD j pc0).2))
/-- The bytes of the first k pieces. -/
def byt (ps : List (Int × Bs)) (k : Nat) : Nat := ((ps.take k).map (·.2.length)).sum
theorem byt_zero (ps : List (Int × Bs)) : byt ps 0 = 0 := by simp [byt]
theorem byt_succ (ps : List (Int × Bs)) (k : Nat) (h : k < ps.length) : byt ps (k + 1) = byt ps k + (ps.getD k pc0).2.length := by
  unfold byt
  rw [List.take_succ_eq_append_getElem h, List.map_append, List.sum_append, getD_lt h]
  simp
theorem byt_mono (ps : List (Int × Bs)) (k : Nat) (h : k ≤ ps.length) : byt ps k ≤ byt ps ps.length := by
  obtain ⟨d, hd⟩ : ∃ d, ps.length = k + d := ⟨ps.length - k, by omega⟩
  rw [hd]
  induction d generalizing k with
  | zero => exact Nat.le_refl _
  | succ d ih =>
    have := ih (k + 1) (by omega) (by omega)
    rw [byt_succ ps k (by omega)] at this
    rw [show k + (d + 1) = k + 1 + d by omega]
    omega
section
variable {w : World}
theorem s_ix39 (g q n cap k : Nat) (hk : k < n) : (Instr.indexAt 39 (.slice (some ⟨g, q, none⟩) n cap) (.int .i64 (k : Int))).run Tryz.prog w = .ok (.pointer (some ⟨g, q + k * 2, none⟩)) w := by
  have h1 : (k : Int) < (n : Int) := by omega
  have u := Tryz.underlying39
  have z := Tryz.sizeOf41
  simp [go_sem, u, z, h1]
theorem s_ix44 (g k : Nat) (hk : k < 2) : (Instr.indexAt 44 (.slice (some ⟨g, 0, none⟩) 2 2) (.int .i64 (k : Int))).run Tryz.prog w = .ok (.pointer (some ⟨g, 0 + k, none⟩)) w := by
  have h1 : (k : Int) < 2 := by omega
  have u := Tryz.underlying44
  have z := Tryz.sizeOf42
  simp [go_sem, u, z, h1]
theorem s_ix47 (g k : Nat) (hk : k < 2) : (Instr.indexAt 47 (.slice (some ⟨g, 0, none⟩) 2 2) (.int .i64 (k : Int))).run Tryz.prog w = .ok (.pointer (some ⟨g, 0 + k, none⟩)) w := by
  have h1 : (k : Int) < 2 := by omega
  have u := Tryz.underlying47
  have z := Tryz.sizeOf45
  simp [go_sem, u, z, h1]
theorem s_neq55 (x y : Operand) (a : Int) : (do eqGuard .neq 55 x y (.int .i64 a) (.int .i64 a); binOp .neq 55 (.int .i64 a) (.int .i64 a) : Sem Value).run Tryz.prog w = .ok (.bool false) w := by
  simp [go_sem, eqGuard]
theorem s_neq3 (x y : Operand) (a : Int) : (do eqGuard .neq 3 x y (.int .i64 a) (.int .i64 a); binOp .neq 3 (.int .i64 a) (.int .i64 a) : Sem Value).run Tryz.prog w = .ok (.bool false) w := by
  simp [go_sem, eqGuard]
theorem s_ext0 (x y : Value) : (Instr.extract (.tuple #[x, y]) 0).run Tryz.prog w = .ok x w := by kernel_rfl
theorem s_ext1 (x y : Value) : (Instr.extract (.tuple #[x, y]) 1).run Tryz.prog w = .ok y w := by kernel_rfl
end
def bkz : Array Value := bk8 (.slice none 0 0) (.slice none 0 0) (.slice none 0 0) (.slice none 0 0) (.slice none 0 0) (.slice none 0 0) (.slice none 0 0)
/-- Between two pieces. -/
structure Fd1 (w0 : World) (Z ra ya : Nat) (R Y : Nat → Nat) (t k : Nat) (W : World) : Prop where
  ex : ∃ p O T ov E fr wa mm mw, FdJ w0 Z ra ya R Y p O T ov E fr wa mm mw W ∧ (∀ a, a < 2 → Lk (p a) (T a) (ov a)) ∧ (∀ a, a < 2 → (T a).length ≤ t) ∧ (E.flatMap (·.l)).length ≤ t ∧ E.length = k
theorem Fd1.r0 {w0 : World} {Z ra ya : Nat} {R Y : Nat → Nat} {t k : Nat} {W : World} (h : Fd1 w0 Z ra ya R Y t k W) : W.cell? ⟨ra, 0, none⟩ = some (ptr (R 0)) := by
  obtain ⟨p, O, T, ov, E, fr, wa, mm, mw, hj, _⟩ := h.ex
  exact cell_of_row W ra 0 _ 42 (0, 0) hj.ra_
theorem Fd1.r1 {w0 : World} {Z ra ya : Nat} {R Y : Nat → Nat} {t k : Nat} {W : World} (h : Fd1 w0 Z ra ya R Y t k W) : W.cell? ⟨ra, 1, none⟩ = some (ptr (R 1)) := by
  obtain ⟨p, O, T, ov, E, fr, wa, mm, mw, hj, _⟩ := h.ex
  exact cell_of_row W ra 1 _ 42 (0, 0) hj.ra_
theorem upd1_two (x y : Nat) : upd1 (fun _ => x) 1 y 0 = x ∧ upd1 (fun _ => x) 1 y 1 = y := ⟨upd1_ne _ _ (by decide), upd1_eq _ _ _⟩
theorem push5 (h : Array Obj) (a b c d e : Obj) : (((((h.push a).push b).push c).push d).push e)[h.size]? = some a ∧ (((((h.push a).push b).push c).push d).push e)[h.size + 1]? = some b ∧ (((((h.push a).push b).push c).push d).push e)[h.size + 2]? = some c ∧ (((((h.push a).push b).push c).push d).push e)[h.size + 3]? = some d ∧ (((((h.push a).push b).push c).push d).push e)[h.size + 4]? = some e := by
  refine ⟨?_, ?_, ?_, ?_, ?_⟩ <;> (simp only [Array.getElem?_push, Array.size_push]; repeat (first | rw [if_pos (by omega)] | rw [if_neg (by omega)] | rw [if_pos trivial]))
/-- Before the first piece. -/
theorem fd1_start {w w3 w4 w5 : World} {R0 R1 : Nat} {O0 O1 : Nat → Prop} (b3 : Below w.heap.size w w3) (h4 : Rdr R0 p0 O0 w4) (o4 : ∀ k, O0 k → w3.heap.size ≤ k) (b4 : Below w3.heap.size w3 w4) (h5 : Rdr R1 p0 O1 w5) (o5 : ∀ k, O1 k → w4.heap.size ≤ k) (b5 : Below w4.heap.size w4 w5) :
    Fd1 w (w5.heap.size + 4) w5.heap.size (w5.heap.size + 3) (upd1 (fun _ => R0) 1 R1) (upd1 (fun _ => w5.heap.size + 1) 1 (w5.heap.size + 2)) 0 0
      (((((w5.alloc (.cells #[ptr R0, ptr R1] 42)).alloc (.cells #[S [], .bool false] 86)).alloc (.cells #[S [], .bool false] 86)).alloc (.cells #[ptr (w5.heap.size + 1), ptr (w5.heap.size + 2)] 45)).alloc (.cells bkz 53)) := by
  have c3 := b3.size
  have c4 := b4.size
  have c5 := b5.size
  generalize hW : (((((w5.alloc (.cells #[ptr R0, ptr R1] 42)).alloc (.cells #[S [], .bool false] 86)).alloc (.cells #[S [], .bool false] 86)).alloc (.cells #[ptr (w5.heap.size + 1), ptr (w5.heap.size + 2)] 45)).alloc (.cells bkz 53)) = W
  have b6 : Below w5.heap.size w5 W := by
    rw [← hW]
    exact (((((Below.refl w5.heap.size w5).alloc (Nat.le_refl _) _).alloc (by simp) _).alloc (by simp; omega) _).alloc (by simp; omega) _).alloc (by simp; omega) _
  have g0 : W.heap[w5.heap.size]? = some (.cells #[ptr R0, ptr R1] 42 (0, 0)) := by rw [← hW]; exact (push5 _ _ _ _ _ _).1
  have g1 : W.heap[w5.heap.size + 1]? = some (.cells #[S [], .bool false] 86 (0, 0)) := by rw [← hW]; exact (push5 _ _ _ _ _ _).2.1
  have g2 : W.heap[w5.heap.size + 2]? = some (.cells #[S [], .bool false] 86 (0, 0)) := by rw [← hW]; exact (push5 _ _ _ _ _ _).2.2.1
  have g3 : W.heap[w5.heap.size + 3]? = some (.cells #[ptr (w5.heap.size + 1), ptr (w5.heap.size + 2)] 45 (0, 0)) := by rw [← hW]; exact (push5 _ _ _ _ _ _).2.2.2.1
  have g4 : W.heap[w5.heap.size + 4]? = some (.cells bkz 53 (0, 0)) := by rw [← hW]; exact (push5 _ _ _ _ _ _).2.2.2.2
  clear hW
  have lt0 : ∀ k, O0 k → k < w4.heap.size := h4.lt
  have lt1 : ∀ k, O1 k → k < w5.heap.size := h5.lt
  have two : ∀ a, a < 2 → a = 0 ∨ a = 1 := fun a ha => by omega
  have kbh : ∀ j, kb w5.heap.size (w5.heap.size + 3) (upd1 (fun _ => w5.heap.size + 1) 1 (w5.heap.size + 2)) (w5.heap.size + 4) (.slice none 0 0) (.slice none 0 0) (.slice none 0 0) (.slice none 0 0) j → w5.heap.size ≤ j := by
    rintro j (q | q | q | q | q | q | q | q | q)
    · omega
    · omega
    · rw [(upd1_two _ _).1] at q; omega
    · rw [(upd1_two _ _).2] at q; omega
    · omega
    · cases q
    · cases q
    · cases q
    · cases q
  refine ⟨fun _ => p0, upd1 (fun _ => O0) 1 O1, fun _ => [], fun _ => false, [], .slice none 0 0, .slice none 0 0, .slice none 0 0, .slice none 0 0, ⟨fun a ha => ?_, fun a ha => ?_, fun a b ha hb hab j q r => ?_, fun a ha j q => ?_, ?_, ?_, ?_, fun a ha => ?_, fun a ha j q r => ?_, ⟨g4, World.ownsRow_nil _ _ _ _, World.ownsRow_nil _ _ _ _, World.ownsRow_nil _ _ _ _, World.ownsRow_nil _ _ _ _, (fun k hk => by cases hk), (fun k hk => by cases hk)⟩, ?_, (fun e he => by cases he), (fun e he => by cases he), (fun e he => by cases he), List.Pairwise.nil, (b3.trans (b4.mono c3)).trans ((b5.trans (b6.mono c5)).mono (by omega))⟩, fun a ha => .inl ⟨rfl, rfl⟩, fun a ha => by simp, by simp, rfl⟩
  · rcases two a ha with rfl | rfl
    · rw [upd1_ne _ _ (by decide), upd1_ne _ _ (by decide)]
      exact (h4.below b5).below b6
    · rw [upd1_eq, upd1_eq]
      exact h5.below b6
  · rcases two a ha with rfl | rfl
    · rw [upd1_ne _ _ (by decide)]; exact g1
    · rw [upd1_eq]; exact g2
  · rcases two a ha with rfl | rfl <;> rcases two b hb with rfl | rfl
    · exact hab rfl
    · rw [upd1_ne _ _ (by decide)] at q
      rw [upd1_eq] at r
      have := lt0 j q; have := o5 j r; omega
    · rw [upd1_eq] at q
      rw [upd1_ne _ _ (by decide)] at r
      have := lt0 j r; have := o5 j q; omega
    · exact hab rfl
  · rcases two a ha with rfl | rfl
    · rw [upd1_ne _ _ (by decide)] at q
      have := o4 j q; omega
    · rw [upd1_eq] at q
      have := o5 j q; omega
  · rw [(upd1_two _ _).1, (upd1_two _ _).2]; exact g0
  · rw [(upd1_two _ _).1, (upd1_two _ _).2]; exact g3
  · rw [(upd1_two _ _).1, (upd1_two _ _).2]; omega
  · rcases two a ha with rfl | rfl
    · rw [upd1_ne _ _ (by decide)]; omega
    · rw [upd1_eq]; omega
  · have h1 := kbh j r
    rcases two a ha with rfl | rfl
    · rw [upd1_ne _ _ (by decide)] at q
      have := lt0 j q; omega
    · rw [upd1_eq] at q
      have := lt1 j q; omega
  · intro j q
    have := kbh j (.inr (.inr (.inr (.inr q))))
    omega
/-- What holds while a piece is fed: c is what comes out. -/
def WdF (wr : World) (P : Value → World → Prop) (c : Value) (L : Nat → Bool) (W : World) : Prop :=
  (L 10 = true → L 9 = true) ∧ (L 11 = true → L 10 = true) ∧ (L 13 = true → L 11 = true) ∧ ((L 9 = false ∧ Below wr.heap.size wr W) ∨ (L 9 = true ∧ L 3 = true ∧ L 8 = true ∧ P c W))
theorem WdF.start (wr : World) (P : Value → World → Prop) (c : Value) : WdF wr P c (fun _ => false) wr.drew := ⟨(fun q => nomatch q), (fun q => nomatch q), (fun q => nomatch q), .inl ⟨rfl, (Below.refl _ _).drew⟩⟩
theorem WdF.pass {wr : World} {P : Value → World → Prop} {c : Value} {L : Nat → Bool} {W : World} (h : WdF wr P c L W) (x : Nat) (h9 : x ≠ 9) (h10 : x = 10 → L 9 = true) (h11 : x = 11 → L 10 = true) (h13 : x = 13 → L 11 = true) : WdF wr P c (upd L x) W := by
  obtain ⟨a1, a2, a3, a4⟩ := h
  have k : ∀ j, upd L x j = true → j = x ∨ L j = true := fun j q => by
    by_cases e : j = x
    · exact .inl e
    · rw [upd_ne e] at q; exact .inr q
  refine ⟨fun q => ?_, fun q => ?_, fun q => ?_, ?_⟩
  · rcases k 10 q with e | e
    · exact upd_mono (h10 e.symm)
    · exact upd_mono (a1 e)
  · rcases k 11 q with e | e
    · exact upd_mono (h11 e.symm)
    · exact upd_mono (a2 e)
  · rcases k 13 q with e | e
    · exact upd_mono (h13 e.symm)
    · exact upd_mono (a3 e)
  · rcases a4 with ⟨q1, q2⟩ | ⟨q1, q2, q3, q4⟩
    · exact .inl ⟨(upd_ne (Ne.symm h9)).trans q1, q2⟩
    · exact .inr ⟨upd_mono q1, upd_mono q2, upd_mono q3, q4⟩
theorem WdF.read {wr : World} {P : Value → World → Prop} {c : Value} {L : Nat → Bool} {W : World} (h : WdF wr P c L W) (hl : L 3 = false ∨ L 8 = false) : Below wr.heap.size wr W := by
  obtain ⟨a1, a2, a3, a4⟩ := h
  rcases a4 with ⟨_, q⟩ | ⟨_, q2, q3, _⟩
  · exact q
  · rcases hl with e | e
    · rw [e] at q2; cases q2
    · rw [e] at q3; cases q3
theorem WdF.at {wr : World} {P : Value → World → Prop} {c : Value} {L : Nat → Bool} {W : World} (h : WdF wr P c L W) (h9 : L 9 = false) : Below wr.heap.size wr W ∧ L 10 = false ∧ L 11 = false ∧ L 13 = false := by
  obtain ⟨a1, a2, a3, a4⟩ := h
  have e10 : L 10 = false := by cases q : L 10; rfl; rw [a1 q] at h9; cases h9
  have e11 : L 11 = false := by cases q : L 11; rfl; rw [a2 q] at e10; cases e10
  have e13 : L 13 = false := by cases q : L 13; rfl; rw [a3 q] at e11; cases e11
  rcases a4 with ⟨_, q⟩ | ⟨q, _⟩
  · exact ⟨q, e10, e11, e13⟩
  · rw [h9] at q; cases q
theorem WdF.came {wr : World} {P : Value → World → Prop} {c c' : Value} {L : Nat → Bool} {W W' : World} (h : WdF wr P c L W) (h9 : L 9 = false) (h3 : L 3 = true) (h8 : L 8 = true) (hp : P c' W') : WdF wr P c' (upd L 9) W' := by
  obtain ⟨_, e10, e11, e13⟩ := h.at h9
  refine ⟨fun q => upd_eq, fun q => ?_, fun q => ?_, .inr ⟨upd_eq, upd_mono h3, upd_mono h8, hp⟩⟩
  · rw [upd_ne (by decide), e11] at q; cases q
  · rw [upd_ne (by decide), e13] at q; cases q
theorem WdF.same18 {g q n cap r ra k R : Nat} {er : Int} {s : Bs} {c c' : Value} {L : Nat → Bool} (h9 : L 9 = false) (h10 : L 10 = false) (h11 : L 11 = false) (h13 : L 13 = false) (i : Nat) (hi : L i = true) : vrw18 g q n cap r ra k R er s c' i = vrw18 g q n cap r ra k R er s c i := by
  match i, hi with
  | 9, hi => rw [h9] at hi; cases hi
  | 10, hi => rw [h10] at hi; cases hi
  | 11, hi => rw [h11] at hi; cases hi
  | 13, hi => rw [h13] at hi; cases hi
  | 0, _ => rfl
  | 1, _ => rfl
  | 2, _ => rfl
  | 3, _ => rfl
  | 4, _ => rfl
  | 5, _ => rfl
  | 6, _ => rfl
  | 7, _ => rfl
  | 8, _ => rfl
  | 12, _ => rfl
  | 14, _ => rfl
  | (i + 15), _ => rfl
theorem WdF.same19 {g q n cap r ra k R : Nat} {er : Int} {s : Bs} {c c' : Value} {L : Nat → Bool} (h9 : L 9 = false) (h10 : L 10 = false) (h11 : L 11 = false) (h13 : L 13 = false) (i : Nat) (hi : L i = true) : vrw19 g q n cap r ra k R er s c' i = vrw19 g q n cap r ra k R er s c i := by
  match i, hi with
  | 9, hi => rw [h9] at hi; cases hi
  | 10, hi => rw [h10] at hi; cases hi
  | 11, hi => rw [h11] at hi; cases hi
  | 13, hi => rw [h13] at hi; cases hi
  | 0, _ => rfl
  | 1, _ => rfl
  | 2, _ => rfl
  | 3, _ => rfl
  | 4, _ => rfl
  | 5, _ => rfl
  | 6, _ => rfl
  | 7, _ => rfl
  | 8, _ => rfl
  | 12, _ => rfl
  | 14, _ => rfl
  | (i + 15), _ => rfl
theorem FdJ.rc {w0 : World} {Z ra ya : Nat} {R Y : Nat → Nat} {p : Nat → Ps} {O : Nat → Nat → Prop} {T : Nat → Bs} {ov : Nat → Bool} {E : List EnM} {fr wa mm mw : Value} {W : World} (h : FdJ w0 Z ra ya R Y p O T ov E fr wa mm mw W) {k : Nat} (hk : k < 2) : W.cell? ⟨ra, k, none⟩ = some (ptr (R k)) := by
  rcases (by omega : k = 0 ∨ k = 1) with rfl | rfl
  · exact cell_of_row W ra 0 _ 42 (0, 0) h.ra_
  · exact cell_of_row W ra 1 _ 42 (0, 0) h.ra_
theorem FdJ.yc {w0 : World} {Z ra ya : Nat} {R Y : Nat → Nat} {p : Nat → Ps} {O : Nat → Nat → Prop} {T : Nat → Bs} {ov : Nat → Bool} {E : List EnM} {fr wa mm mw : Value} {W : World} (h : FdJ w0 Z ra ya R Y p O T ov E fr wa mm mw W) {k : Nat} (hk : k < 2) : W.cell? ⟨ya, k, none⟩ = some (ptr (Y k)) := by
  rcases (by omega : k = 0 ∨ k = 1) with rfl | rfl
  · exact cell_of_row W ya 0 _ 45 (0, 0) h.ya_
  · exact cell_of_row W ya 1 _ 45 (0, 0) h.ya_
theorem hs33 {B : Nat} {R : Nat} {p : Ps} {O : Nat → Prop} {W : World} (h : Rdr R p O W) (s : Bs) (_ : B = B) : (∀ m ∈ (feed p s).2.1, m.hs.length ≤ 33) ∧ (feed p s).2.1.length ≤ s.length := by
  obtain ⟨⟨P, _, h2⟩, _, _⟩ := h
  rcases h2 with ⟨a1, _⟩ | ⟨rfl, _⟩
  · have e : feed p s = fd p s [] := by unfold feed; rw [if_neg (by have := a1.1; omega)]
    rw [e]
    have := fd_cnt p s []
    exact ⟨fd_hs p s [] a1 (fun m hm => nomatch hm), by simpa using this⟩
  · have e : feed pov s = (pov, [], 54) := rfl
    rw [e]
    exact ⟨(fun m hm => nomatch hm), Nat.zero_le _⟩
set_option maxHeartbeats 16000000 in
set_option maxRecDepth 8000 in
theorem wireFeeds_any {B : Nat} (ps : List (Int × Bs)) (pp : Option Addr) (n cap : Nat) (w : World) (hE : Env B w) (hP : Pcs w pp n ps) (hn : n ≤ 140737488351232) (hS : ∀ k, (ps.getD k pc0).2.length ≤ 140737488351232) (hI : ∀ k, -9223372036854775808 ≤ (ps.getD k pc0).1 ∧ (ps.getD k pc0).1 ≤ 9223372036854775807) :
    Calls Tryz.prog 4 #[.slice pp n cap] w fun e w' => e = .returned (.bool true) ∧ Below w.heap.size w w' := by
  have HE := hide (And.intro hE hP)
  have HS := hide (And.intro hS hI)
  have HN := hide hP.1
  clear hE hP hS hI
  go_enter Tryz.func4, Tryz.ntmps4
  go_wp2_with fail
  go_loopw [3, 4] (fun x i wr => ∃ (k : Nat) (z : Int), k ≤ n ∧ i = .int .i64 k ∧ x = .int .i64 z ∧ 0 ≤ z ∧ z ≤ 2147483648 ∧ (z ≤ 2147483647 → (2 * byt ps k + 50 * k : Nat) ≤ z) ∧ Below w.heap.size w wr) (fun _ i _ => n - (Go.RowKit.intOf i).toNat)
  case atStart => exact ⟨0, 0, by omega, rfl, rfl, by omega, by omega, fun _ => by rw [byt_zero]; decide, Below.refl _ _⟩
  case round =>
    obtain ⟨k, z, hk, rfl, rfl, hz0, hz1, hz2, hb⟩ := hrel
    have HB := hide hb
    clear hb
    by_cases hlt : k < n
    · by_cases hz : z ≤ 2147483647
      · obtain ⟨g, q, rfl, hc⟩ := (unhide HE).2.2 (by omega)
        have hc1 := ((unhide HB).cell (by exact blk_lt (hc k hlt).2)).trans (hc k hlt).2
        have hbs := byt_succ ps k (by rw [← unhide HN]; exact hlt)
        have hsl := (unhide HS).1 k
        generalize (ps.getD k pc0).2 = s at *
        have hz3 := hz2 hz
        have e1 := addv_bd2 (show (0 : Int) ≤ s.length by omega) (show (0 : Int) ≤ s.length by omega)
        have e2 := addv_bd2 e1.1 (show (0 : Int) ≤ 50 by omega)
        have e3 := addv_bd2 hz0 e2.1
        have e4 : addv z (addv (addv s.length s.length) 50) ≤ 2147483647 → z + 2 * s.length + 50 ≤ addv z (addv (addv s.length s.length) 50) := by
          unfold addv
          split <;> split <;> split <;> omega
        have hlt' : (k : Int) < (n : Int) := by omega
        have HZ := hide (And.intro hbs (And.intro hz3 (And.intro e3 e4)))
        have HE12 := hide (And.intro e1 e2)
        clear hc hbs hz3 e4 hz2 e3 e1 e2
        go_wp2_with fail
        refine rw5 g q n cap k z (addv s.length s.length) (addv (addv s.length s.length) 50) (addv z (addv (addv s.length s.length) 50)) s (by kernel_rfl) (by kernel_rfl) (by kernel_rfl) _ _ (by show 43 ≤ Array.size _; simp) rfl rfl rfl (fun _ L W => Below wr.heap.size wr W ∧ (L 15 = true → L 0 = true) ∧ (L 16 = true → L 15 = true)) ⟨(), (Below.refl _ _).drew, (fun q => nomatch q), (fun q => nomatch q)⟩ ?_ ?_ ?_ ?_ ?_ ?_ ?_ ?_ ?_ ?_ ?_
        · intro x hx _ L W hW
          refine ⟨hW.1, fun q => ?_, fun q => ?_⟩
          · rw [upd_ne (by intro e; subst e; simp at hx)] at q
            exact upd_mono (hW.2.1 q)
          · rw [upd_ne (by intro e; subst e; simp at hx)] at q
            exact upd_mono (hW.2.2 q)
        · intro _ L W hW h0
          cases q : L 16
          · rfl
          · rw [hW.2.1 (hW.2.2 q)] at h0; cases h0
        · exact fun W => s_ix39 g q n cap k hlt
        · exact fun _ L W hW _ _ => s_ld (fun w => Tryz.isAgg9 w) ((World.cell?_of_block (hW.1.block g (blk_lt hc1))).trans hc1)
        · exact fun W => s_ix39 g q n cap k hlt
        · exact fun _ L W hW _ _ => s_ld (fun w => Tryz.isAgg9 w) ((World.cell?_of_block (hW.1.block g (blk_lt hc1))).trans hc1)
        · intro _ L W hW _ _ _
          refine (add2_any s.length s.length W (by omega) (by omega) (by omega) (by omega)).mono ?_
          rintro e w2 ⟨rfl, hw⟩
          rw [hw]
          exact ⟨(), fun _ _ => rfl, rfl, hW.1, fun q => by rw [upd_ne (by decide)] at q; exact upd_mono (hW.2.1 q), fun q => by rw [upd_ne (by decide)] at q; exact upd_mono (hW.2.2 q)⟩
        · intro _ L W hW _ _
          have e12 := unhide HE12
          refine (add2_any (addv s.length s.length) 50 W (by omega) (by omega) (by omega) (by omega)).mono ?_
          rintro e w2 ⟨rfl, hw⟩
          rw [hw]
          exact ⟨(), fun _ _ => rfl, rfl, hW.1, fun q => by rw [upd_ne (by decide)] at q; exact upd_mono (hW.2.1 q), fun q => by rw [upd_ne (by decide)] at q; exact upd_mono (hW.2.2 q)⟩
        · intro _ L W hW _ h0 _
          have e12 := unhide HE12
          refine (add2_any z (addv (addv s.length s.length) 50) W (by omega) (by omega) (by omega) (by omega)).mono ?_
          rintro e w2 ⟨rfl, hw⟩
          rw [hw]
          exact ⟨(), fun _ _ => rfl, rfl, hW.1, fun _ => upd_mono h0, fun q => upd_eq⟩
        · exact fun _ L W hW _ h15 => ⟨hW.1, fun q => by rw [upd_ne (by decide)] at q; exact upd_mono (hW.2.1 q), fun _ => upd_mono h15⟩
        intro _ L W _ hW
        have HB2 := hide ((unhide HB).trans (hW.1.mono (unhide HB).size))
        clear hW hc1
        generalize addv z (addv (addv s.length s.length) 50) = Y at *
        generalize addv (addv (s.length : Int) s.length) 50 = X2 at *
        generalize addv (s.length : Int) s.length = X1 at *
        simp only [Act.put, List.setIfInBounds_toArray, List.set_cons_succ, List.set_cons_zero]
        go_wp2
        go_roundw
        case rel =>
          obtain ⟨hbs, hz3, e3, e4⟩ := unhide HZ
          exact ⟨k + 1, Y, by omega, by go_num, rfl, e3.1, e3.2, fun q => by have := e4 q; rw [hbs]; omega, unhide HB2⟩
        case measure => simp [Go.RowKit.intOf]; omega
      · have hlt' : (k : Int) < (n : Int) := by omega
        have hzd : decide (z ≤ 2147483647) = false := by simpa using hz
        have hz9 : (2147483647 : Int) < z := by omega
        clear hz2
        go_wp2
        go_ret
        exact ⟨rfl, unhide HB⟩
    · have hd : decide ((k : Int) < (n : Int)) = false := by simp; omega
      have hkn : k = n := by omega
      subst hkn
      by_cases hz : z ≤ 2147483647
      · have hz9 : ¬ (2147483647 : Int) < z := by omega
        have hz3 := hz2 hz
        have HT := hide (show 2 * byt ps k + 50 * k ≤ 2147483647 by omega)
        have H3 := hide (awake_any wr ((unhide HE).1.below ((unhide HB).mono (unhide HE).1.le)))
        clear hz2 hz3
        go_wp2_with fail
        refine (unhide H3).mono ?_
        rintro e w3 ⟨rfl, b3⟩
        have B3 := hide ((unhide HB).trans (b3.mono (unhide HB).size))
        clear b3 H3
        have H4 := hide (newReader_any w3)
        go_wp2_with fail
        refine (unhide H4).mono ?_
        rintro e w4 ⟨R0, O0, rfl, h4, o4, b4⟩
        have D4 := hide (And.intro h4 (And.intro o4 b4))
        have H5 := hide (newReader_any w4)
        clear h4 o4 b4 H4
        go_wp2_with fail
        refine (unhide H5).mono ?_
        rintro e w5 ⟨R1, O1, rfl, h5, o5, b5⟩
        have HST := hide (fd1_start (unhide B3) (unhide D4).1 (unhide D4).2.1 (unhide D4).2.2 h5 o5 b5)
        clear h5 o5 b5 H5 D4
        go_wp2_with fail
        refine (rNewReader_any _).mono ?_
        rintro e w6 ⟨rfl, hw6⟩
        rw [hw6, show (w5.alloc (Obj.cells #[ptr R0, ptr R1] 42)).heap.size = w5.heap.size + 1 by simp]
        clear hw6 w6
        go_wp2_with fail
        refine (rNewReader_any _).mono ?_
        rintro e w6 ⟨rfl, hw6⟩
        rw [hw6, show ((w5.alloc (Obj.cells #[ptr R0, ptr R1] 42)).alloc (.cells #[S [], .bool false] 86)).heap.size = w5.heap.size + 2 by simp]
        clear hw6 w6
        have d0 := (unhide HST).r0
        have d1 := (unhide HST).r1
        unfold bkz bk8 at d0 d1
        go_wp2_with fail
        clear d0 d1
        rw [show w5.heap.size + 1 + 1 + 1 + 1 = w5.heap.size + 4 from rfl, show w5.heap.size + 1 + 1 + 1 = w5.heap.size + 3 from rfl]
        change Code.wp _ _ _ _ (((((w5.alloc (.cells #[ptr R0, ptr R1] 42)).alloc (.cells #[S [], .bool false] 86)).alloc (.cells #[S [], .bool false] 86)).alloc (.cells #[ptr (w5.heap.size + 1), ptr (w5.heap.size + 2)] 45)).alloc (.cells bkz 53))
        generalize (((((w5.alloc (.cells #[ptr R0, ptr R1] 42)).alloc (.cells #[S [], .bool false] 86)).alloc (.cells #[S [], .bool false] 86)).alloc (.cells #[ptr (w5.heap.size + 1), ptr (w5.heap.size + 2)] 45)).alloc (.cells bkz 53)) = WW at *
        generalize upd1 (fun _ => R0) 1 R1 = R at *
        generalize upd1 (fun _ => w5.heap.size + 1) 1 (w5.heap.size + 2) = Y at *
        generalize w5.heap.size + 4 = Z at *
        generalize w5.heap.size + 3 = ya at *
        generalize w5.heap.size = ra at *
        clear hz hz9 hz0 hz1 HB B3 hd hlt
        go_loopw [9] (fun i wq => ∃ j : Nat, j ≤ k ∧ i = .int .i64 j ∧ Fd1 w Z ra ya R Y (byt ps j) j wq) (fun i _ => k - (Go.RowKit.intOf i).toNat)
        case atStart => exact ⟨0, by omega, rfl, by rw [byt_zero]; exact unhide HST⟩
        case round =>
          clear HST
          obtain ⟨j, hj, rfl, hfd⟩ := hrel
          have hkp := unhide HN
          by_cases hlt : j < k
          · have hlt' : (j : Int) < (k : Int) := by omega
            obtain ⟨g, q, rfl, hc⟩ := (unhide HE).2.2 (by omega)
            have hbs := byt_succ ps j (by omega)
            have hbt := byt_mono ps (j + 1) (by omega)
            rw [← hkp] at hbt
            have hon := (unhide HS).2 j
            obtain ⟨p, O, T, ov, E, fr, wa, mm, mw, hJ, hlk, htl, hcn, hEn⟩ := hfd.ex
            have c0 := (hJ.bel.cell (by exact blk_lt (hc j hlt).1)).trans (hc j hlt).1
            have c1 := (hJ.bel.cell (by exact blk_lt (hc j hlt).1)).trans (hc j hlt).2
            have HC1 := hide (hc j hlt).2
            generalize (ps.getD j pc0).1 = on at *
            generalize (ps.getD j pc0).2 = s at *
            have hkk := pkv_lt on 2 (by omega)
            have H6 := hide (pick_any on 2 wr (by omega) (by omega) hon.1 hon.2)
            generalize pkv on 2 = kk at *
            have HTT := hide (And.intro hbs (And.intro hbt (And.intro hlk (And.intro htl (And.intro hcn hEn)))))
            have HJ := hide hJ
            clear hc hbs hbt hlk htl hcn hEn hon hfd hJ hkp
            go_wp2_with fail
            refine (unhide H6).mono ?_
            rintro e w6 ⟨rfl, hw6⟩
            rw [hw6]
            clear hw6 w6 H6 c0
            go_wp2_with fail
            have hra := (unhide HJ).rc hkk
            have hs12 : s.length ≤ 1100000000 ∧ (p kk).rd ≤ 2000000000 := by
              obtain ⟨hbs, hbt, hlk, htl, _⟩ := unhide HTT
              have := unhide HT
              have := (hlk kk hkk).rd
              have := htl kk hkk
              omega
            refine rw18 g q k cap j ra kk (R kk) ((feed (p kk) s).2.2 : Nat) s (by kernel_rfl) (by kernel_rfl) (by kernel_rfl) _ _ (by show 93 ≤ Array.size _; simp) rfl rfl rfl rfl
              (WdF wr (fun V W => ∃ O' l M, FdJ w Z ra ya R Y (upd1 p kk (feed (p kk) s).1) O' T ov E fr wa mm mw W ∧ (feed (p kk) s).2.1 = l.map (·.1) ∧ Pnd w ra ya Y Z fr wa mm mw O' V l M W ∧ (∀ e ∈ E, ∀ j, e.M j → ¬ M j))) ⟨.slice none 0 0, WdF.start _ _ _⟩ ?_ ?_ ?_ ?_ ?_ ?_ ?_ ?_ ?_ ?_ ?_ ?_
            · exact fun x hx c L W hW => hW.pass x (by intro e; subst e; simp at hx) (by intro e; subst e; simp at hx) (by intro e; subst e; simp at hx) (by intro e; subst e; simp at hx)
            · exact fun W => s_ix44 ra kk hkk
            · intro c L W hW h3 _
              rw [Nat.zero_add]
              exact s_ld (fun w => Tryz.isAgg42 w) ((World.cell?_of_block ((hW.read (.inl h3)).block ra (blk_lt hra))).trans hra)
            · exact fun W => s_ix39 g q k cap j hlt
            · intro c L W hW h8 _
              exact s_ld (fun w => Tryz.isAgg9 w) ((World.cell?_of_block ((hW.read (.inr h8)).block g (blk_lt c1))).trans c1)
            · intro c L W hW h9 h3 h8
              refine (fdj_feed ((unhide HJ).below (hW.at h9).1) (unhide HE).1 kk hkk s (by omega) (by omega)).mono ?_
              rintro e w7 ⟨V, rfl, hpost⟩
              obtain ⟨_, e10, e11, e13⟩ := hW.at h9
              exact ⟨V, fun i hi => WdF.same18 h9 e10 e11 e13 i hi, rfl, hW.came h9 h3 h8 hpost⟩
            · exact fun c L W hW _ h9 => hW.pass 10 (by decide) (fun _ => h9) (fun e => nomatch e) (fun e => nomatch e)
            · exact fun c W => s_ext0 _ _
            · exact fun c L W hW _ h10 => hW.pass 11 (by decide) (fun e => nomatch e) (fun _ => h10) (fun e => nomatch e)
            · exact fun c W => s_ext1 _ _
            · exact fun c L W hW _ h11 => hW.pass 13 (by decide) (fun e => nomatch e) (fun e => nomatch e) (fun _ => h11)
            intro V L W hall hW
            have hp1 : ∃ O' l M, FdJ w Z ra ya R Y (upd1 p kk (feed (p kk) s).1) O' T ov E fr wa mm mw W ∧ (feed (p kk) s).2.1 = l.map (·.1) ∧ Pnd w ra ya Y Z fr wa mm mw O' V l M W ∧ (∀ e ∈ E, ∀ j, e.M j → ¬ M j) := by
              obtain ⟨_, _, _, a4⟩ := hW
              rcases a4 with ⟨q1, _⟩ | ⟨_, _, _, q4⟩
              · rw [hall 9 (by decide)] at q1; cases q1
              · exact q4
            clear hW hall
            obtain ⟨O1', l, M, hJ1, hms, hpd, hap⟩ := hp1
            have hf33 := hs33 (B := 0) ((unhide HJ).rdr kk hkk) s rfl
            have hra := hJ1.rc hkk
            have hya := hJ1.yc hkk
            have c2 := (hJ1.bel.cell (by exact blk_lt (unhide HC1))).trans (unhide HC1)
            have HJ1 := hide (And.intro hJ1 (And.intro hms (And.intro hpd hap)))
            have HF33 := hide hf33
            have hs13 : (T kk).length + s.length ≤ 1000000000000 := by
              obtain ⟨hbs, hbt, hlk, htl, _⟩ := unhide HTT
              have := unhide HT
              have := htl kk hkk
              omega
            have hlkk := (unhide HTT).2.2.1 kk hkk
            clear hJ1 hms hpd hap hf33 HJ hs12 c1
            simp only [Act.put, List.setIfInBounds_toArray, List.set_cons_succ, List.set_cons_zero]
            obtain ⟨W1, hW1⟩ : ∃ W1, W1 = W := ⟨_, rfl⟩
            rw [← hW1] at HJ1 hra hya c2 ⊢
            clear hW1
            go_wp2_with fail
            refine rw19 g q k cap j ya kk (Y kk) ((feed (p kk) s).2.2 : Nat) s (by kernel_rfl) (by kernel_rfl) (by kernel_rfl) _ _ (by show 106 ≤ Array.size _; simp) rfl rfl rfl rfl
              (WdF W1 (fun V2 W => ∃ T2 ov2 l2 M2, FdJ w Z ra ya R Y (upd1 p kk (feed (p kk) s).1) O1' (upd1 T kk T2) (upd1 ov kk ov2) E fr wa mm mw W ∧ Pnd w ra ya Y Z fr wa mm mw O1' V l M W ∧ Pnd w ra ya Y Z fr wa mm mw O1' V2 l2 M2 W ∧ (feed (p kk) s).2.1 = l2.map (·.1) ∧ Lk (feed (p kk) s).1 T2 ov2 ∧ T2.length ≤ (T kk).length + s.length)) ⟨.slice none 0 0, WdF.start _ _ _⟩ ?_ ?_ ?_ ?_ ?_ ?_ ?_ ?_ ?_ ?_ ?_ ?_
            · exact fun x hx c L W hW => hW.pass x (by intro e; subst e; simp at hx) (by intro e; subst e; simp at hx) (by intro e; subst e; simp at hx) (by intro e; subst e; simp at hx)
            · exact fun W => s_ix47 ya kk hkk
            · intro c L W hW h3 _
              rw [Nat.zero_add]
              exact s_ld (fun w => Tryz.isAgg45 w) ((World.cell?_of_block ((hW.read (.inl h3)).block ya (blk_lt hya))).trans hya)
            · exact fun W => s_ix39 g q k cap j hlt
            · intro c L W hW h8 _
              exact s_ld (fun w => Tryz.isAgg9 w) ((World.cell?_of_block ((hW.read (.inr h8)).block g (blk_lt c2))).trans c2)
            · intro c L W hW h9 h3 h8
              refine (fdj_ref ((unhide HJ1).1.below (hW.at h9).1) kk hkk (p kk) hlkk s hs13 ((unhide HJ1).2.2.1.below (hW.at h9).1)).mono ?_
              rintro e w7 ⟨V2, rfl, hpost⟩
              obtain ⟨_, e10, e11, e13⟩ := hW.at h9
              exact ⟨V2, fun i hi => WdF.same19 h9 e10 e11 e13 i hi, rfl, hW.came h9 h3 h8 hpost⟩
            · exact fun c L W hW _ h9 => hW.pass 10 (by decide) (fun _ => h9) (fun e => nomatch e) (fun e => nomatch e)
            · exact fun c W => s_ext0 _ _
            · exact fun c L W hW _ h10 => hW.pass 11 (by decide) (fun e => nomatch e) (fun _ => h10) (fun e => nomatch e)
            · exact fun c W => s_ext1 _ _
            · exact fun c L W hW _ h11 => hW.pass 13 (by decide) (fun e => nomatch e) (fun e => nomatch e) (fun _ => h11)
            intro V2 L W2 hall hW
            have hp2 : ∃ T2 ov2 l2 M2, FdJ w Z ra ya R Y (upd1 p kk (feed (p kk) s).1) O1' (upd1 T kk T2) (upd1 ov kk ov2) E fr wa mm mw W2 ∧ Pnd w ra ya Y Z fr wa mm mw O1' V l M W2 ∧ Pnd w ra ya Y Z fr wa mm mw O1' V2 l2 M2 W2 ∧ (feed (p kk) s).2.1 = l2.map (·.1) ∧ Lk (feed (p kk) s).1 T2 ov2 ∧ T2.length ≤ (T kk).length + s.length := by
              obtain ⟨_, _, _, a4⟩ := hW
              rcases a4 with ⟨q1, _⟩ | ⟨_, _, _, q4⟩
              · rw [hall 9 (by decide)] at q1; cases q1
              · exact q4
            clear hW hall
            obtain ⟨T2, ov2, l2, M2, hJ2, hpd, hpd2, hms2, hlk2, ht2⟩ := hp2
            obtain ⟨hJ1, hms, _, hap⟩ := unhide HJ1
            clear hJ1
            have hfs : l.map (·.1) = l2.map (·.1) := by rw [← hms, ← hms2]
            obtain ⟨p1, c1, eV, hm1⟩ := hpd.mat.mls
            obtain ⟨p2, c2', eV2, hm2⟩ := hpd2.mat.mls
            rw [← hfs] at eV2 hm2
            have hll : (l.map (·.1)).length = l.length := List.length_map _
            have hln : l.length ≤ s.length := by have := (unhide HF33).2; rw [hms] at this; simpa using this
            have h33 : ∀ m ∈ l, m.1.hs.length ≤ 33 := fun m hm => by
              have := (unhide HF33).1 m.1
              rw [hms] at this
              exact this (List.mem_map_of_mem hm)
            subst eV eV2
            rw [hll] at hpd hpd2 hm1 hm2 ⊢
            have HG := hide (messages_eq p1 p2 l.length c1 c2' (l.map (·.1)) W2 hm1 hm2 (by omega) (fun i => by
              by_cases hi : i < (l.map (·.1)).length
              · rw [getD_lt hi, List.getElem_map]
                have := h33 _ (List.getElem_mem (by rw [← hll]; exact hi)); omega
              · rw [List.getD_eq_getElem?_getD, List.getElem?_eq_none (by omega)]
                exact Nat.zero_le _))
            have HJ2 := hide (And.intro hJ2 (And.intro hpd (And.intro hpd2 (And.intro hfs (And.intro h33 (And.intro hap (And.intro hlk2 (And.intro ht2 hln))))))))
            clear hJ2 hpd hpd2 hfs h33 hap hlk2 ht2 hln hm1 hm2 hms hms2 hll HJ1 HF33 hlkk hs13 hra hya c2
            simp only [Act.put, List.setIfInBounds_toArray, List.set_cons_succ, List.set_cons_zero]
            generalize hLN : l.length = ln at *
            have HLN := hide hLN
            clear hLN
            go_wp2_with fail
            refine (unhide HG).mono ?_
            rintro e W3 ⟨rfl, b3⟩
            have HK := hide (show Calls Tryz.prog 24 #[.pointer (some ⟨Z, 0, none⟩), .slice p1 ln c1, .slice p2 ln c2'] W3 (fun e w' => e = .returned (.tuple #[]) ∧ ∃ fr' wa' mm' mw', FdJ w Z ra ya R Y (upd1 p kk (feed (p kk) s).1) O1' (upd1 T kk T2) (upd1 ov kk ov2) (E ++ [⟨.slice p1 ln c1, .slice p2 ln c2', l, l2, M, M2⟩]) fr' wa' mm' mw' w') from by
              obtain ⟨hJ2, hpd, hpd2, hfs, h33, hap, hlk2, ht2, hln⟩ := unhide HJ2
              obtain ⟨hbs, hbt, hlk, htl, hcn, hEn⟩ := unhide HTT
              have hT := unhide HT
              have hlen2 : (E.flatMap (·.l2)).length = (E.flatMap (·.l)).length := by
                have := congrArg List.length (flat_fst E (fun e he => (hJ2.ent e he).2.2.1))
                simpa using this.symm
              exact fdj_takes (hJ2.below b3) (hpd.below b3) (hpd2.below b3) (unhide HLN) hfs h33 hap (by omega) (by omega) (by omega))
            clear b3 HG
            go_wp2_with fail
            refine (unhide HK).mono ?_
            rintro e W4 ⟨rfl, fr', wa', mm', mw', hJ4⟩
            have hra := hJ4.rc hkk
            have hya := hJ4.yc hkk
            have hrd4 := hJ4.rdr kk hkk
            have hrf4 := hJ4.rfb kk hkk
            rw [upd1_eq] at hrd4
            rw [upd1_eq, upd1_eq] at hrf4
            have hrdl : (feed (p kk) s).1.rd = T2.length := (unhide HJ2).2.2.2.2.2.2.1.rd
            have HN4 := hide (show Fd1 w Z ra ya R Y (byt ps (j + 1)) (j + 1) W4 from by
              obtain ⟨hJ2, hpd, hpd2, hfs, h33, hap, hlk2, ht2, hln⟩ := unhide HJ2
              obtain ⟨hbs, hbt, hlk, htl, hcn, hEn⟩ := unhide HTT
              refine ⟨_, _, _, _, _, _, _, _, _, hJ4, fun a ha => ?_, fun a ha => ?_, ?_, ?_⟩
              · by_cases hak : a = kk
                · subst hak
                  rw [upd1_eq, upd1_eq, upd1_eq]
                  exact hlk2
                · rw [upd1_ne _ _ hak, upd1_ne _ _ hak, upd1_ne _ _ hak]
                  exact hlk a ha
              · by_cases hak : a = kk
                · subst hak
                  rw [upd1_eq]
                  have := htl a ha
                  omega
                · rw [upd1_ne _ _ hak]
                  have := htl a ha
                  omega
              · rw [List.flatMap_append, List.length_append]
                have : ([(⟨.slice p1 ln c1, .slice p2 ln c2', l, l2, M, M2⟩ : EnM)].flatMap (·.l)).length = l.length := by simp
                rw [this, unhide HLN]
                omega
              · rw [List.length_append, hEn]
                rfl)
            have HD4 := hide (And.intro hrd4 (And.intro hrf4 hrdl))
            clear hJ4 hrd4 hrf4 hrdl HK HJ2 HTT
            generalize (feed (p kk) s).1 = q1 at *
            generalize (feed (p kk) s).2.2 = er at *
            go_wp2_with fail
            refine rw22 ra ya kk (R kk) (Y kk) (er : Int) (T2.length : Int) (by kernel_rfl) (by kernel_rfl) (by kernel_rfl) _ _ (by show 133 ≤ Array.size _; simp) rfl rfl rfl rfl rfl rfl (fun _ _ W => Below W4.heap.size W4 W) ⟨(), (Below.refl _ _).drew⟩ (fun _ _ _ _ _ q => q) ?_ ?_ ?_ ?_ ?_ ?_ ?_ ?_ ?_
            · exact fun W => s_neq55 _ _ _
            · exact fun W => s_ix44 ra kk hkk
            · intro _ L W h _ _
              rw [Nat.zero_add]
              exact s_ld (fun w => Tryz.isAgg42 w) ((World.cell?_of_block (h.block ra (blk_lt hra))).trans hra)
            · intro _ L W h _ _
              refine (waiting_any ((unhide HD4).1.below h)).mono ?_
              rintro e w7 ⟨rfl, hw⟩
              rw [hw]
              exact ⟨(), fun _ _ => rfl, by rw [(unhide HD4).2.2]; rfl, h⟩
            · exact fun W => s_ix47 ya kk hkk
            · intro _ L W h _ _
              rw [Nat.zero_add]
              exact s_ld (fun w => Tryz.isAgg45 w) ((World.cell?_of_block (h.block ya (blk_lt hya))).trans hya)
            · intro _ L W h _ _
              refine (rWaiting_any (Y kk) T2 ov2 W ((h.block _ (lt_of_row (unhide HD4).2.1)).trans (unhide HD4).2.1)).mono ?_
              rintro e w7 ⟨rfl, hw⟩
              rw [hw]
              exact ⟨(), fun _ _ => rfl, rfl, h⟩
            · exact fun W => s_neq3 _ _ _
            intro _ L W5 _ hW
            have HN5 := hide (show Fd1 w Z ra ya R Y (byt ps (j + 1)) (j + 1) W5 from by
              obtain ⟨p, O, T, ov, E, fr, wa, mm, mw, hJ, hr⟩ := (unhide HN4).ex
              exact ⟨p, O, T, ov, E, fr, wa, mm, mw, hJ.below hW, hr⟩)
            clear hW hra hya HD4 HN4
            simp only [Act.put, List.setIfInBounds_toArray, List.set_cons_succ, List.set_cons_zero]
            go_wp2
            refine ⟨⟨j + 1, by omega, by go_num, unhide HN5⟩, ?_⟩
            simp [Go.RowKit.intOf]; omega
          · have hd : decide (j < k) = false := by simp; omega
            have hjk : j = k := by omega
            subst hjk
            obtain ⟨p, O, T, ov, E, fr, wa, mm, mw, hJ, hlk, htl, hcn, hEn⟩ := hfd.ex
            have hT := unhide HT
            have HK := hide (fdj_still hJ (by omega) (by omega))
            have HB5 := hide hJ.bel
            clear hJ hlk htl hcn hEn hfd hT hkp
            go_wp2_with fail
            refine (unhide HK).mono ?_
            rintro e W6 ⟨rfl, b6⟩
            have HB6 := hide ((unhide HB5).trans b6)
            clear b6 HK HB5
            go_wp2
            go_ret
            exact ⟨rfl, unhide HB6⟩
      · have hz9 : (2147483647 : Int) < z := by omega
        have hzd : decide (z ≤ 2147483647) = false := by simpa using hz
        clear hz2
        go_wp2
        go_ret
        exact ⟨rfl, unhide HB⟩
end Go.Proofs.YthlacailhfhjnaaGreatDoor
