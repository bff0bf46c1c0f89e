import Derived.Test.YteejnfkbjdpccaaLca
namespace Go.Proofs.Yteejnfkbjdpccaa
open Go.RowKit Fl
set_option maxHeartbeats 4000000
set_option maxRecDepth 8000
/-- Two limiters, of which the second one knows of one name alone. -/
structure Tw (B : Nat) (w0 : World) (p q : Nat) (s : Bs) (x y : Li) (w : World) : Prop where
  lx : LAt 57 65 p x w
  ly : LAt 57 65 q y w
  ne : q ≠ p
  pB : B ≤ p
  qB : B ≤ q
  al : Al s x y
  xo : x.Ok
  yo : y.Ok
  b : Below B w0 w
theorem Tw.sz {B : Nat} {w0 : World} {p q : Nat} {s : Bs} {x y : Li} {w : World} (h : Tw B w0 p q s x y w) : B ≤ w.heap.size := Nat.le_trans h.pB (Nat.le_of_lt h.lx.lt)
theorem Tw.below {B : Nat} {w0 : World} {p q : Nat} {s : Bs} {x y : Li} {w w' : World} (h : Tw B w0 p q s x y w) (hb : Below w.heap.size w w') : Tw B w0 p q s x y w' :=
  ⟨h.lx.below hb, h.ly.below hb, h.ne, h.pB, h.qB, h.al, h.xo, h.yo, h.b.trans (hb.mono h.sz)⟩
theorem n16_len {t : Bs} (ht : t ∈ n16) : t.length ≤ 281474976710656 := by
  unfold n16 at ht
  obtain ⟨i, _, rfl⟩ := List.mem_map.1 ht
  simp [nmv]
/-- The first one is asked: for another name. -/
theorem Tw.takeO {B : Nat} {w0 : World} {p q : Nat} {s : Bs} {x y : Li} {w : World} (h : Tw B w0 p q s x y w) {t : Bs} (ht : t ∈ n16) (hne : s ≠ t) (c d now : Int) :
    Calls Try.prog 13 #[ptr p, S t, fl (nv c d), I now] w fun e w' => e = .returned (.tuple #[I (x.told t (nv c d) now).1, I (x.told t (nv c d) now).2]) ∧ Tw B w0 p q s (x.took t (nv c d) now) y w' := by
  refine (take_any h.lx h.xo t (n16_len ht) (nv c d) (fun _ => Or.inl (by have := (nv_some c d).2; omega)) now).mono ?_
  rintro e w' ⟨rfl, h2, h3⟩
  exact ⟨rfl, h2, h.ly.other h.lx h3 h.ne (by decide), h.ne, h.pB, h.qB, h.al.other ht hne _ _, took_ok h.xo _ _ _, h.yo, h3.below h.b h.sz (fun k e => by have := h.pB; omega)⟩
/-- Both are asked for the same name. -/
structure Tx (B : Nat) (w0 : World) (p q : Nat) (s : Bs) (c d now : Int) (x y : Li) (w : World) : Prop where
  lx : LAt 57 65 p (x.took s (nv c d) now) w
  ly : LAt 57 65 q y w
  ne : q ≠ p
  pB : B ≤ p
  qB : B ≤ q
  al : Al s x y
  xo : x.Ok
  yo : y.Ok
  b : Below B w0 w
theorem Tw.takeS {B : Nat} {w0 : World} {p q : Nat} {s : Bs} {x y : Li} {w : World} (h : Tw B w0 p q s x y w) (hs : s ∈ n16) (c d now : Int) :
    Calls Try.prog 13 #[ptr p, S s, fl (nv c d), I now] w fun e w' => e = .returned (.tuple #[I (x.told s (nv c d) now).1, I (x.told s (nv c d) now).2]) ∧ Tx B w0 p q s c d now x y w' ∧ Only (fun k => k = p) w w' := by
  refine (take_any h.lx h.xo s (n16_len hs) (nv c d) (fun _ => Or.inl (by have := (nv_some c d).2; omega)) now).mono ?_
  rintro e w' ⟨rfl, h2, h3⟩
  exact ⟨rfl, ⟨h2, h.ly.other h.lx h3 h.ne (by decide), h.ne, h.pB, h.qB, h.al, h.xo, h.yo, h3.below h.b h.sz (fun k e => by have := h.pB; omega)⟩, h3⟩
theorem Tx.take {B : Nat} {w0 : World} {p q : Nat} {s : Bs} {c d now : Int} {x y : Li} {w : World} (h : Tx B w0 p q s c d now x y w) (hs : s ∈ n16) :
    Calls Try.prog 13 #[ptr q, S s, fl (nv c d), I now] w fun e w' => e = .returned (.tuple #[I (x.told s (nv c d) now).1, I (x.told s (nv c d) now).2]) ∧ Tw B w0 p q s (x.took s (nv c d) now) (y.took s (nv c d) now) w' := by
  refine (take_any h.ly h.yo s (n16_len hs) (nv c d) (fun _ => Or.inl (by have := (nv_some c d).2; omega)) now).mono ?_
  rintro e w' ⟨rfl, h2, h3⟩
  refine ⟨by rw [h.al.told], h.lx.other h.ly h3 h.ne.symm (by decide), h2, h.ne, h.pB, h.qB, h.al.same hs _ _, took_ok h.xo _ _ _, took_ok h.yo _ _ _, h3.below h.b (Nat.le_trans h.qB (Nat.le_of_lt h.ly.lt)) (fun k e => by have := h.qB; omega)⟩
theorem Tw.lev {B : Nat} {w0 : World} {p q : Nat} {s : Bs} {x y : Li} {w : World} (h : Tw B w0 p q s x y w) (now : Int) :
    Calls Try.prog 15 #[ptr p, S s, I now] w fun e w' => e = .returned (fl (x.level s now)) ∧ Tw B w0 p q s x y w' := by
  refine (level_f h.lx h.xo s now).mono ?_
  rintro e w' ⟨rfl, b⟩
  exact ⟨rfl, h.below b⟩
theorem Tw.lev2 {B : Nat} {w0 : World} {p q : Nat} {s : Bs} {x y : Li} {w : World} (h : Tw B w0 p q s x y w) (now : Int) :
    Calls Try.prog 15 #[ptr q, S s, I now] w fun e w' => e = .returned (fl (x.level s now)) ∧ Tw B w0 p q s x y w' := by
  refine (level_f h.ly h.yo s now).mono ?_
  rintro e w' ⟨rfl, b⟩
  exact ⟨by rw [h.al.level], h.below b⟩
theorem Tw.nms {B : Nat} {w0 : World} {p q : Nat} {s : Bs} {x y : Li} {w : World} (h : Tw B w0 p q s x y w) :
    Calls Try.prog 19 #[ptr p] w fun e w' => ∃ a n cap, e = .returned (.slice a n cap) ∧ n ≤ 16 ∧ Tw B w0 p q s x y w' := by
  refine (names_any h.lx h.xo).mono ?_
  rintro e w' ⟨V, rfl, n⟩
  obtain ⟨a, cap, rfl⟩ := n.form
  exact ⟨a, _, cap, rfl, by rw [List.length_map]; exact h.xo.few, h.below n.b⟩
theorem Tw.nms2 {B : Nat} {w0 : World} {p q : Nat} {s : Bs} {x y : Li} {w : World} (h : Tw B w0 p q s x y w) :
    Calls Try.prog 19 #[ptr q] w fun e w' => ∃ a n cap, e = .returned (.slice a n cap) ∧ n ≤ 1 ∧ Tw B w0 p q s x y w' := by
  refine (names_any h.ly h.yo).mono ?_
  rintro e w' ⟨V, rfl, n⟩
  obtain ⟨a, cap, rfl⟩ := n.form
  exact ⟨a, _, cap, rfl, by rw [List.length_map]; exact h.al.len, h.below n.b⟩
theorem neq_self {x : Nat} (h : x < 2139095040) : (FloatKind.f32.format.order x x != some .eq) = false := by
  have ho : FloatKind.f32.format.order x x = some (compare x x) := ord_pos (Nat.le_of_lt h) (Nat.le_of_lt h)
  rw [ho, Nat.compare_eq_eq.2 rfl]
  rfl
theorem eql_no {x : Nat} (h0 : 0 < x) (h : x < 2139095040) : (F.order x 0 == some .eq) = false := by
  have ho : F.order x 0 = some (compare x 0) := ord_pos (Nat.le_of_lt h) (by decide)
  rw [ho, Nat.compare_eq_gt.2 h0]
  rfl
theorem new_law (r b : Nat) (hr : r < 2139095040) (h0 : 0 < b) (h1 : b < 2139095040) (w : World) : Calls Try.prog 8 #[fl r, fl b] w fun e w' => e = .returned (.tuple #[ptr w.heap.size, I 0]) ∧ LAt 57 65 w.heap.size ⟨r, b, []⟩ w' ∧ Below w.heap.size w w' := by
  refine (new_any r b w).mono ?_
  rintro e w' ⟨h, hb⟩
  rw [if_pos (by rw [amt_am (Or.inl hr), amt_am (Or.inl h1), eql_no h0 h1]; rfl)] at h
  exact ⟨h.1, ⟨none, 0, h.2, owns_nil 65 3 w'⟩, hb⟩
end Go.Proofs.Yteejnfkbjdpccaa
