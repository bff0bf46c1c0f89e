import Derived.Test.YthlacailhfhjnaaGreatDoorLif
namespace Go.Proofs.YthlacailhfhjnaaGreatDoor
open Go Go.ChangeShapes Go.WideShapes Go.ChangeAt
theorem cap0 {H : Type} {enc : TypeId × Value → H} {W : World} {a : Option Addr} {n c fuel : Nat} {y : DataW H × List MemPlace}
    (hf : DataW.trod enc Tryz.prog W 0 (fun _ => true) true fuel 22 [.slice a n c] = some y) : a = none → c = 0 := by
  rcases Go.Deep.open_slice Tryz.underlying22 hf with ⟨hcs, _⟩ | ⟨x, l, cc, m, n, D, Pl, hcs, _⟩
  · simp at hcs
    exact fun _ => hcs.2.2
  · simp at hcs
    intro h
    rw [hcs.1] at h
    cases h
set_option maxRecDepth 20000 in
theorem open_answer2 {H : Type} {enc : TypeId × Value → H} {W : World} {v : Value} {base : Nat} {d : DataW H} {ps : List MemPlace} (hval : Value.okWide Tryz.prog W .any base 26 v)
    (h : DataW.Trod enc Tryz.prog W 0 (fun _ => true) true 26 v d ps) (hsz : ∀ x ∈ DataW.weights Tryz.prog 26 d, x ≤ 140737488351232) :
    ∃ (st : Int) (a : Option Addr) (qs : List Fl) (cap : Nat) (b : Bs), v = .agg #[.int .i64 st, .slice a qs.length cap, S b] ∧ (-9223372036854775808 ≤ st ∧ st ≤ 9223372036854775807) ∧ (a = none → cap = 0) ∧ Fls W a qs.length qs ∧ qs.length ≤ 140737488351232 ∧ Lens qs ∧ b.length ≤ 140737488351232 := by
  obtain ⟨cs, rfl, hc⟩ := okWide_struct Tryz.underlying26 hval
  rw [cells26] at hc
  obtain ⟨fuel, hf⟩ := h
  obtain ⟨xs, k, hk, hxy, _, hxl, hfs⟩ := DataW.trod_struct Tryz.underlying26 hf
  obtain ⟨l⟩ := cs
  match xs, hxl, l, hc with
  | [y0, y1, y2], _, [v0, v1, v2], _ =>
    have g0 := hfs 0 _ rfl
    have g1 := hfs 1 _ rfl
    have g2 := hfs 2 _ rfl
    simp [cells9, cells22, cells3, Value.cells] at g0 g1 g2
    simp at hxy
    obtain ⟨rfl, _⟩ := hxy
    have key : ∀ x, x ∈ DataW.weights Tryz.prog 22 y1.1 ∨ x ∈ DataW.weights Tryz.prog 9 y2.1 → x ≤ 140737488351232 := by
      intro x hx
      refine hsz x ?_
      simp only [DataW.weights, Tryz.underlying26]
      simp [DataW.weightsEach]
      rcases hx with hx | hx
      · simp [hx]
      · simp [hx]
    obtain ⟨z0, ez0, rfl, w0⟩ := DataW.trod_int Tryz.underlying3 g0
    obtain ⟨z2, ez2, rfl, _⟩ := DataW.trod_string Tryz.underlying9 g2
    obtain ⟨a, qs, cap, rfl, f1, f2, f3⟩ := open_fields g1 (fun x hx => key x (.inl hx))
    simp only [List.cons.injEq, and_true] at ez0 ez2
    subst ez0 ez2
    exact ⟨z0, a, qs, cap, z2.data.toList, by simp [S], i64_of w0, cap0 g1, f1, f2, f3, key _ (.inr (by simp [DataW.weights]))⟩
set_option maxRecDepth 20000 in
theorem open_message2 {H : Type} {enc : TypeId × Value → H} {W : World} {v : Value} {base : Nat} {d : DataW H} {ps : List MemPlace} (hval : Value.okWide Tryz.prog W .any base 24 v)
    (h : DataW.Trod enc Tryz.prog W 0 (fun _ => true) true 24 v d ps) (hsz : ∀ x ∈ DataW.weights Tryz.prog 24 d, x ≤ 140737488351232) :
    ∃ (m : Ms) (a : Option Addr) (cap : Nat), v = .agg #[S m.m, S m.p, .slice a m.hs.length cap, S m.b] ∧ (a = none → cap = 0) ∧ Fls W a m.hs.length m.hs ∧ m.hs.length ≤ 140737488351232 ∧ Lens m.hs ∧ m.m.length ≤ 140737488351232 ∧ m.p.length ≤ 140737488351232 ∧ m.b.length ≤ 140737488351232 := by
  obtain ⟨cs, rfl, hc⟩ := okWide_struct Tryz.underlying24 hval
  rw [cells24] at hc
  obtain ⟨fuel, hf⟩ := h
  obtain ⟨xs, k, hk, hxy, _, hxl, hfs⟩ := DataW.trod_struct Tryz.underlying24 hf
  obtain ⟨l⟩ := cs
  match xs, hxl, l, hc with
  | [y0, y1, y2, y3], _, [v0, v1, v2, v3], _ =>
    have g0 := hfs 0 _ rfl
    have g1 := hfs 1 _ rfl
    have g2 := hfs 2 _ rfl
    have g3 := hfs 3 _ rfl
    simp [cells9, cells22, Value.cells] at g0 g1 g2 g3
    simp at hxy
    obtain ⟨rfl, _⟩ := hxy
    have key : ∀ x, (x ∈ DataW.weights Tryz.prog 9 y0.1 ∨ x ∈ DataW.weights Tryz.prog 9 y1.1 ∨ x ∈ DataW.weights Tryz.prog 22 y2.1 ∨ x ∈ DataW.weights Tryz.prog 9 y3.1) → x ≤ 140737488351232 := by
      intro x hx
      refine hsz x ?_
      simp only [DataW.weights, Tryz.underlying24]
      simp [DataW.weightsEach]
      rcases hx with hx | hx | hx | hx <;> simp [hx]
    obtain ⟨z0, ez0, rfl, _⟩ := DataW.trod_string Tryz.underlying9 g0
    obtain ⟨z1, ez1, rfl, _⟩ := DataW.trod_string Tryz.underlying9 g1
    obtain ⟨z3, ez3, rfl, _⟩ := DataW.trod_string Tryz.underlying9 g3
    obtain ⟨a, qs, cap, rfl, f1, f2, f3⟩ := open_fields g2 (fun x hx => key x (.inr (.inr (.inl hx))))
    simp only [List.cons.injEq, and_true] at ez0 ez1 ez3
    subst ez0 ez1 ez3
    exact ⟨⟨z0.data.toList, z1.data.toList, qs, z3.data.toList⟩, a, cap, by simp [S], cap0 g2, f1, f2, f3, key _ (.inl (by simp [DataW.weights])), key _ (.inr (.inl (by simp [DataW.weights]))), key _ (.inr (.inr (.inr (by simp [DataW.weights]))))⟩
end Go.Proofs.YthlacailhfhjnaaGreatDoor
