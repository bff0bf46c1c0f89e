import Derived.Test.YthlacailhfhjnaaGreatDoorZzae
import Derived.Test.YthlacailhfhjnaaGreatDoorZzad
import Derived.Deep.Slices
import Derived.SizedLaws
import Derived.WalkKit
namespace Go.Proofs.YthlacailhfhjnaaGreatDoor
open Go Go.ChangeShapes Go.WideShapes Go.ChangeAt
theorem bytes35 : Tryz.prog.bytesOf 35 = 32 := by kernel_rfl
theorem cells35 : Tryz.prog.cellsOf 35 = 2 := by kernel_rfl
theorem cells9 : Tryz.prog.cellsOf 9 = 1 := by kernel_rfl
theorem weigh_all {H : Type} {P : Program} {e : TypeId} {d : DataW H} {x : Nat} (hx : x ∈ DataW.weights P e d) : ∀ {l : List (DataW H)}, d ∈ l → x ∈ DataW.weightsAll P e l
  | y :: l, h => by
    rcases List.mem_cons.1 h with rfl | h
    · exact List.mem_append.2 (.inl hx)
    · exact List.mem_append.2 (.inr (weigh_all hx h))
/-- What stands in a field's two cells. -/
structure FlAt {H : Type} (W : World) (a : Addr) (i : Nat) (D : Nat → DataW H) (q : Fl) : Prop where
  c0 : W.cell? (a.add (i * 2)) = some (S q.1)
  c1 : W.cell? (a.add (i * 2 + 1)) = some (S q.2)
  d : D i = .agg [.lit (.string q.1), .lit (.string q.2)]
theorem getD_at {α : Type} (f : Nat → α) (d : α) (n k : Nat) (h : k < n) : ((List.range n).map f).getD k d = f k := by simp [h]
set_option maxRecDepth 20000 in
/-- Fields inside an argument: what they are, and how long their texts can be. -/
theorem open_fields {H : Type} {enc : TypeId × Value → H} {W : World} {v : Value} {fuel : Nat} {y : DataW H × List MemPlace}
    (hf : DataW.trod enc Tryz.prog W 0 (fun _ => true) true fuel 22 [v] = some y) (hsz : ∀ x ∈ DataW.weights Tryz.prog 22 y.1, x ≤ 140737488351232) :
    ∃ (a : Option Addr) (qs : List Fl) (cap : Nat), v = .slice a qs.length cap ∧ Fls W a qs.length qs ∧ qs.length ≤ 140737488351232 ∧ Lens qs := by
  rcases Go.Deep.open_slice Tryz.underlying22 hf with ⟨hcs, _⟩ | ⟨x, l, c, m, n, D, Pl, hcs, _, hl, hm, hmm, hx, hel⟩
  · simp at hcs
    exact ⟨none, [], 0, hcs, Fls.nil _ _, by simp, fun k => by simp [fl0]⟩
  · simp at hcs
    simp only [if_true] at hmm
    subst hmm
    obtain ⟨d, ps⟩ := y
    have hd' : d = .slice ((List.range l).map D) ((List.range (m - l)).map fun j => D (l + j)) := congrArg Prod.fst hx
    subst hd'
    have h1 : (l + (m - l)) * 32 ≤ 140737488351232 := by
      have := hsz ((l + (m - l)) * 32) (by simp [DataW.weights, Tryz.underlying22, bytes35])
      exact this
    have each : ∀ i, i < m → ∃ q : Fl, FlAt W x i D q := by
      intro i hi
      obtain ⟨cs', h1, h2⟩ := hel i hi
      rw [cells35] at h1
      obtain ⟨_, hlen, hcell⟩ := World.cells?_some h1
      obtain ⟨xs, k, hk, hxy, _, hxl, hf⟩ := DataW.trod_struct Tryz.underlying35 h2
      match xs, hxl, cs', hlen with
      | [y0, y1], _, [v0, v1], _ =>
        have g0 := hf 0 _ rfl
        have g1 := hf 1 _ rfl
        simp [cells9] at g0 g1
        have e0 := hcell 0 (by omega)
        have e1 := hcell 1 (by omega)
        rw [Go.Deep.add_add] at e0 e1
        obtain ⟨z0, ez0, rfl, _⟩ := DataW.trod_string Tryz.underlying9 g0
        obtain ⟨z1, ez1, rfl, _⟩ := DataW.trod_string Tryz.underlying9 g1
        simp only [List.cons.injEq, and_true] at ez0 ez1
        subst ez0 ez1
        simp only [Prod.mk.injEq] at hxy
        exact ⟨(z0.data.toList, z1.data.toList), by simpa [S] using e0, by simpa [S] using e1, by simpa using hxy.1⟩
    have : Inhabited Fl := ⟨fl0⟩
    obtain ⟨q, hq⟩ := Go.Deep.choose_lt each
    have hlen : ((List.range l).map q).length = l := by simp
    have htl : Lens ((List.range l).map q) := by
      intro k
      by_cases hk : k < l
      · rw [getD_at q fl0 l k hk]
        have e := (hq k (by omega)).d
        have key : ∀ y, y ∈ DataW.weights (H := H) Tryz.prog 35 (.agg [.lit (.string (q k).1), .lit (.string (q k).2)]) → y ≤ 140737488351232 := by
          intro y hy
          refine hsz y ?_
          simp only [DataW.weights, Tryz.underlying22]
          refine List.mem_cons_of_mem _ (List.mem_append.2 (.inl (weigh_all (d := D k) ?_ (List.mem_map.2 ⟨k, List.mem_range.2 hk, rfl⟩))))
          rw [e]
          exact hy
        refine ⟨key _ ?_, key _ ?_⟩
        · simp only [DataW.weights, Tryz.underlying35]
          simp [DataW.weightsEach, DataW.weights]
        · simp only [DataW.weights, Tryz.underlying35]
          simp [DataW.weightsEach, DataW.weights]
      · rw [List.getD_eq_getElem?_getD, List.getElem?_eq_none (by simp; omega)]
        simp [fl0]
    refine ⟨some x, (List.range l).map q, m, by rw [hlen]; exact hcs, ⟨rfl, fun h0 => ?_⟩, by rw [hlen]; omega, htl⟩
    rw [hlen] at h0 ⊢
    obtain ⟨b, off, spot⟩ := x
    have hspot : spot = none := by simpa [Addr.add] using World.cell?_spot (hq 0 (by omega)).c0
    subst hspot
    refine ⟨b, off, rfl, fun k hk => ?_⟩
    rw [getD_at q fl0 l k hk]
    have := hq k (by omega)
    have e0 := this.c0
    have e1 := this.c1
    rw [WideShapes.add_plain] at e0 e1
    exact ⟨e0, e1⟩
theorem cells22 : Tryz.prog.cellsOf 22 = 1 := by kernel_rfl
theorem cells3 : Tryz.prog.cellsOf 3 = 1 := by kernel_rfl
theorem cells26 : Tryz.prog.cellsOf 26 = 3 := by kernel_rfl
theorem cells24 : Tryz.prog.cellsOf 24 = 4 := by kernel_rfl
theorem i64_of {z : Int} (h : (Lit.int .i64 z).wf = true) : -9223372036854775808 ≤ z ∧ z ≤ 9223372036854775807 := by
  simpa [Lit.wf, IntKind.min, IntKind.max, IntKind.bits, IntKind.signed] using h
set_option maxRecDepth 20000 in
theorem open_answer {H : Type} {enc : TypeId × Value → H} {W : World} {v : Value} {base : Nat} {d : DataW H} {ps : List MemPlace} (hval : Value.okWide Tryz.prog W .any base 26 v)
    (h : DataW.Trod enc Tryz.prog W 0 (fun _ => true) true 26 v d ps) (hsz : ∀ x ∈ DataW.weights Tryz.prog 26 d, x ≤ 140737488351232) :
    ∃ (st : Int) (a : Option Addr) (qs : List Fl) (cap : Nat) (b : Bs), v = .agg #[.int .i64 st, .slice a qs.length cap, S b] ∧ (-9223372036854775808 ≤ st ∧ st ≤ 9223372036854775807) ∧ Fls W a qs.length qs ∧ qs.length ≤ 140737488351232 ∧ Lens qs ∧ b.length ≤ 140737488351232 := by
  obtain ⟨cs, rfl, hc⟩ := okWide_struct Tryz.underlying26 hval
  rw [cells26] at hc
  obtain ⟨fuel, hf⟩ := h
  obtain ⟨xs, k, hk, hxy, _, hxl, hfs⟩ := DataW.trod_struct Tryz.underlying26 hf
  obtain ⟨l⟩ := cs
  match xs, hxl, l, hc with
  | [y0, y1, y2], _, [v0, v1, v2], _ =>
    have g0 := hfs 0 _ rfl
    have g1 := hfs 1 _ rfl
    have g2 := hfs 2 _ rfl
    simp [cells9, cells22, cells3, Value.cells] at g0 g1 g2
    simp at hxy
    obtain ⟨rfl, _⟩ := hxy
    have key : ∀ x, x ∈ DataW.weights Tryz.prog 22 y1.1 ∨ x ∈ DataW.weights Tryz.prog 9 y2.1 → x ≤ 140737488351232 := by
      intro x hx
      refine hsz x ?_
      simp only [DataW.weights, Tryz.underlying26]
      simp [DataW.weightsEach]
      rcases hx with hx | hx
      · simp [hx]
      · simp [hx]
    obtain ⟨z0, ez0, rfl, w0⟩ := DataW.trod_int Tryz.underlying3 g0
    obtain ⟨z2, ez2, rfl, _⟩ := DataW.trod_string Tryz.underlying9 g2
    obtain ⟨a, qs, cap, rfl, f1, f2, f3⟩ := open_fields g1 (fun x hx => key x (.inl hx))
    simp only [List.cons.injEq, and_true] at ez0 ez2
    subst ez0 ez2
    exact ⟨z0, a, qs, cap, z2.data.toList, by simp [S], i64_of w0, f1, f2, f3, key _ (.inr (by simp [DataW.weights]))⟩
set_option maxRecDepth 20000 in
theorem open_message {H : Type} {enc : TypeId × Value → H} {W : World} {v : Value} {base : Nat} {d : DataW H} {ps : List MemPlace} (hval : Value.okWide Tryz.prog W .any base 24 v)
    (h : DataW.Trod enc Tryz.prog W 0 (fun _ => true) true 24 v d ps) (hsz : ∀ x ∈ DataW.weights Tryz.prog 24 d, x ≤ 140737488351232) :
    ∃ (m : Ms) (a : Option Addr) (cap : Nat), v = .agg #[S m.m, S m.p, .slice a m.hs.length cap, S m.b] ∧ Fls W a m.hs.length m.hs ∧ m.hs.length ≤ 140737488351232 ∧ Lens m.hs ∧ m.m.length ≤ 140737488351232 ∧ m.p.length ≤ 140737488351232 ∧ m.b.length ≤ 140737488351232 := by
  obtain ⟨cs, rfl, hc⟩ := okWide_struct Tryz.underlying24 hval
  rw [cells24] at hc
  obtain ⟨fuel, hf⟩ := h
  obtain ⟨xs, k, hk, hxy, _, hxl, hfs⟩ := DataW.trod_struct Tryz.underlying24 hf
  obtain ⟨l⟩ := cs
  match xs, hxl, l, hc with
  | [y0, y1, y2, y3], _, [v0, v1, v2, v3], _ =>
    have g0 := hfs 0 _ rfl
    have g1 := hfs 1 _ rfl
    have g2 := hfs 2 _ rfl
    have g3 := hfs 3 _ rfl
    simp [cells9, cells22, Value.cells] at g0 g1 g2 g3
    simp at hxy
    obtain ⟨rfl, _⟩ := hxy
    have key : ∀ x, (x ∈ DataW.weights Tryz.prog 9 y0.1 ∨ x ∈ DataW.weights Tryz.prog 9 y1.1 ∨ x ∈ DataW.weights Tryz.prog 22 y2.1 ∨ x ∈ DataW.weights Tryz.prog 9 y3.1) → x ≤ 140737488351232 := by
      intro x hx
      refine hsz x ?_
      simp only [DataW.weights, Tryz.underlying24]
      simp [DataW.weightsEach]
      rcases hx with hx | hx | hx | hx <;> simp [hx]
    obtain ⟨z0, ez0, rfl, _⟩ := DataW.trod_string Tryz.underlying9 g0
    obtain ⟨z1, ez1, rfl, _⟩ := DataW.trod_string Tryz.underlying9 g1
    obtain ⟨z3, ez3, rfl, _⟩ := DataW.trod_string Tryz.underlying9 g3
    obtain ⟨a, qs, cap, rfl, f1, f2, f3⟩ := open_fields g2 (fun x hx => key x (.inr (.inr (.inl hx))))
    simp only [List.cons.injEq, and_true] at ez0 ez1 ez3
    subst ez0 ez1 ez3
    exact ⟨⟨z0.data.toList, z1.data.toList, qs, z3.data.toList⟩, a, cap, by simp [S], f1, f2, f3, key _ (.inl (by simp [DataW.weights])), key _ (.inr (.inl (by simp [DataW.weights]))), key _ (.inr (.inr (.inr (by simp [DataW.weights]))))⟩
theorem laidOut : laidOutB Tryz.prog = true := by kernel_rfl
end Go.Proofs.YthlacailhfhjnaaGreatDoor
namespace Go.Proofs.YthlacailhfhjnaaGreatDoor
open Go Go.ChangeShapes Go.WideShapes Go.ChangeAt
theorem cap0 {H : Type} {enc : TypeId × Value → H} {W : World} {a : Option Addr} {n c fuel : Nat} {y : DataW H × List MemPlace}
    (hf : DataW.trod enc Tryz.prog W 0 (fun _ => true) true fuel 22 [.slice a n c] = some y) : a = none → c = 0 := by
  rcases Go.Deep.open_slice Tryz.underlying22 hf with ⟨hcs, _⟩ | ⟨x, l, cc, m, n, D, Pl, hcs, _⟩
  · simp at hcs
    exact fun _ => hcs.2.2
  · simp at hcs
    intro h
    rw [hcs.1] at h
    cases h
set_option maxRecDepth 20000 in
theorem open_answer2 {H : Type} {enc : TypeId × Value → H} {W : World} {v : Value} {base : Nat} {d : DataW H} {ps : List MemPlace} (hval : Value.okWide Tryz.prog W .any base 26 v)
    (h : DataW.Trod enc Tryz.prog W 0 (fun _ => true) true 26 v d ps) (hsz : ∀ x ∈ DataW.weights Tryz.prog 26 d, x ≤ 140737488351232) :
    ∃ (st : Int) (a : Option Addr) (qs : List Fl) (cap : Nat) (b : Bs), v = .agg #[.int .i64 st, .slice a qs.length cap, S b] ∧ (-9223372036854775808 ≤ st ∧ st ≤ 9223372036854775807) ∧ (a = none → cap = 0) ∧ Fls W a qs.length qs ∧ qs.length ≤ 140737488351232 ∧ Lens qs ∧ b.length ≤ 140737488351232 := by
  obtain ⟨cs, rfl, hc⟩ := okWide_struct Tryz.underlying26 hval
  rw [cells26] at hc
  obtain ⟨fuel, hf⟩ := h
  obtain ⟨xs, k, hk, hxy, _, hxl, hfs⟩ := DataW.trod_struct Tryz.underlying26 hf
  obtain ⟨l⟩ := cs
  match xs, hxl, l, hc with
  | [y0, y1, y2], _, [v0, v1, v2], _ =>
    have g0 := hfs 0 _ rfl
    have g1 := hfs 1 _ rfl
    have g2 := hfs 2 _ rfl
    simp [cells9, cells22, cells3, Value.cells] at g0 g1 g2
    simp at hxy
    obtain ⟨rfl, _⟩ := hxy
    have key : ∀ x, x ∈ DataW.weights Tryz.prog 22 y1.1 ∨ x ∈ DataW.weights Tryz.prog 9 y2.1 → x ≤ 140737488351232 := by
      intro x hx
      refine hsz x ?_
      simp only [DataW.weights, Tryz.underlying26]
      simp [DataW.weightsEach]
      rcases hx with hx | hx
      · simp [hx]
      · simp [hx]
    obtain ⟨z0, ez0, rfl, w0⟩ := DataW.trod_int Tryz.underlying3 g0
    obtain ⟨z2, ez2, rfl, _⟩ := DataW.trod_string Tryz.underlying9 g2
    obtain ⟨a, qs, cap, rfl, f1, f2, f3⟩ := open_fields g1 (fun x hx => key x (.inl hx))
    simp only [List.cons.injEq, and_true] at ez0 ez2
    subst ez0 ez2
    exact ⟨z0, a, qs, cap, z2.data.toList, by simp [S], i64_of w0, cap0 g1, f1, f2, f3, key _ (.inr (by simp [DataW.weights]))⟩
set_option maxRecDepth 20000 in
theorem open_message2 {H : Type} {enc : TypeId × Value → H} {W : World} {v : Value} {base : Nat} {d : DataW H} {ps : List MemPlace} (hval : Value.okWide Tryz.prog W .any base 24 v)
    (h : DataW.Trod enc Tryz.prog W 0 (fun _ => true) true 24 v d ps) (hsz : ∀ x ∈ DataW.weights Tryz.prog 24 d, x ≤ 140737488351232) :
    ∃ (m : Ms) (a : Option Addr) (cap : Nat), v = .agg #[S m.m, S m.p, .slice a m.hs.length cap, S m.b] ∧ (a = none → cap = 0) ∧ Fls W a m.hs.length m.hs ∧ m.hs.length ≤ 140737488351232 ∧ Lens m.hs ∧ m.m.length ≤ 140737488351232 ∧ m.p.length ≤ 140737488351232 ∧ m.b.length ≤ 140737488351232 := by
  obtain ⟨cs, rfl, hc⟩ := okWide_struct Tryz.underlying24 hval
  rw [cells24] at hc
  obtain ⟨fuel, hf⟩ := h
  obtain ⟨xs, k, hk, hxy, _, hxl, hfs⟩ := DataW.trod_struct Tryz.underlying24 hf
  obtain ⟨l⟩ := cs
  match xs, hxl, l, hc with
  | [y0, y1, y2, y3], _, [v0, v1, v2, v3], _ =>
    have g0 := hfs 0 _ rfl
    have g1 := hfs 1 _ rfl
    have g2 := hfs 2 _ rfl
    have g3 := hfs 3 _ rfl
    simp [cells9, cells22, Value.cells] at g0 g1 g2 g3
    simp at hxy
    obtain ⟨rfl, _⟩ := hxy
    have key : ∀ x, (x ∈ DataW.weights Tryz.prog 9 y0.1 ∨ x ∈ DataW.weights Tryz.prog 9 y1.1 ∨ x ∈ DataW.weights Tryz.prog 22 y2.1 ∨ x ∈ DataW.weights Tryz.prog 9 y3.1) → x ≤ 140737488351232 := by
      intro x hx
      refine hsz x ?_
      simp only [DataW.weights, Tryz.underlying24]
      simp [DataW.weightsEach]
      rcases hx with hx | hx | hx | hx <;> simp [hx]
    obtain ⟨z0, ez0, rfl, _⟩ := DataW.trod_string Tryz.underlying9 g0
    obtain ⟨z1, ez1, rfl, _⟩ := DataW.trod_string Tryz.underlying9 g1
    obtain ⟨z3, ez3, rfl, _⟩ := DataW.trod_string Tryz.underlying9 g3
    obtain ⟨a, qs, cap, rfl, f1, f2, f3⟩ := open_fields g2 (fun x hx => key x (.inr (.inr (.inl hx))))
    simp only [List.cons.injEq, and_true] at ez0 ez1 ez3
    subst ez0 ez1 ez3
    exact ⟨⟨z0.data.toList, z1.data.toList, qs, z3.data.toList⟩, a, cap, by simp [S], cap0 g2, f1, f2, f3, key _ (.inl (by simp [DataW.weights])), key _ (.inr (.inl (by simp [DataW.weights]))), key _ (.inr (.inr (.inr (by simp [DataW.weights]))))⟩
end Go.Proofs.YthlacailhfhjnaaGreatDoor
/- A region that draws its order, by an invariant: one goal an operation, not one an order. -/
namespace Go.Proofs.YthlacailhfhjnaaGreatDoor
variable {P : Program} {ops : Array Oper} {Q : Exit → Act → World → Prop}
def upd (L : Nat → Bool) (i : Nat) : Nat → Bool := fun j => if j = i then true else L j
def left (listed : Array Bool) : Nat → Nat
  | 0 => 0
  | n + 1 => left listed n + (if listed.getD n true = false then 1 else 0)
theorem left_zero {listed : Array Bool} : ∀ {n : Nat}, left listed n = 0 → ∀ i, i < n → listed.getD i true = true := by
  intro n
  induction n with
  | zero => intro _ i hi; omega
  | succ n ih =>
    intro h i hi
    simp only [left] at h
    by_cases e : i = n
    · subst e
      cases hq : listed.getD i true
      · simp [hq] at h
      · rfl
    · exact ih (by omega) i (by omega)
theorem left_set {listed : Array Bool} {i : Nat} (hi : listed.getD i true = false) : ∀ {n : Nat}, i < n → left (listed.setIfInBounds i true) n + 1 = left listed n := by
  have hlt : i < listed.size := by
    rcases Nat.lt_or_ge i listed.size with h' | h'
    · exact h'
    · simp [Array.getElem?_eq_none h'] at hi
  have hself : (listed.setIfInBounds i true).getD i true = true := by simp [hlt]
  have low : ∀ n, n ≤ i → left (listed.setIfInBounds i true) n = left listed n := by
    intro n
    induction n with
    | zero => intro _; rfl
    | succ n ih =>
      intro h
      simp only [left]
      rw [ih (by omega), getD_set_ne true (by omega)]
  intro n
  induction n with
  | zero => intro h; omega
  | succ n ih =>
    intro h
    simp only [left]
    by_cases e : i = n
    · subst e
      rw [low i (Nat.le_refl _), hself, hi]
      simp
    · rw [getD_set_ne true e]
      have := ih (by omega)
      omega
theorem any_inv (I : (Nat → Bool) → Act → World → Prop)
    (hac : ∀ i o, ops[i]? = some o → ∀ e ∈ o.after, Region.binds .any e = true → e.on < i)
    (hstep : ∀ L a w i o, ops[i]? = some o → L i = false → (∀ e ∈ o.after, Region.binds .any e = true → L e.on = true) → I L a w → wpOp P ops Q i (fun a' w' => I (upd L i) a' w') a w)
    (hend : ∀ L a w, (∀ i, i < ops.size → L i = true) → I L a w → Q .normal a w) :
    ∀ fuel listed a w, listed.size = ops.size → left listed ops.size ≤ fuel → I (fun j => listed.getD j false) a w → wpAny P .any ops Q fuel listed a w := by
  have same : ∀ (listed : Array Bool) (j : Nat), j < listed.size → listed.getD j true = listed.getD j false := by
    intro listed j hj; simp [hj]
  have nil : ∀ (listed : Array Bool) (a : Act) (w : World), listed.size = ops.size → I (fun j => listed.getD j false) a w → Region.ready .any ops listed = [] → Q .normal a w := by
    intro listed a w hs hI hr
    refine hend _ a w ?_ hI
    intro i
    induction i using Nat.strongRecOn with
    | ind i ih =>
      intro hi
      cases hq : listed.getD i false
      · exfalso
        have hm : i ∈ Region.ready .any ops listed := by
          rw [mem_ready]
          refine ⟨by rw [same listed i (by omega)]; exact hq, ops[i], by simp [hi], ?_⟩
          intro e he hb
          have hlt := hac i ops[i] (by simp [hi]) e he hb
          exact ih e.on hlt (by omega)
        rw [hr] at hm
        cases hm
      · rfl
  intro fuel
  induction fuel with
  | zero =>
    intro listed a w hs hl hI
    have hr : Region.ready .any ops listed = [] := by
      cases hq : Region.ready .any ops listed with
      | nil => rfl
      | cons x xs =>
        have hm : x ∈ Region.ready .any ops listed := by rw [hq]; simp
        rw [mem_ready] at hm
        obtain ⟨h1, o, ho, _⟩ := hm
        have hlt : x < ops.size := (Array.getElem?_eq_some_iff.1 ho).1
        have := left_zero (listed := listed) (n := ops.size) (by omega) x hlt
        rw [this] at h1
        cases h1
    exact ⟨hr, nil listed a w hs hI hr⟩
  | succ fuel ih =>
    intro listed a w hs hl hI
    refine ⟨nil listed a w hs hI, ?_⟩
    intro i hi
    rw [mem_ready] at hi
    obtain ⟨h1, o, ho, hall⟩ := hi
    have hlt : i < ops.size := (Array.getElem?_eq_some_iff.1 ho).1
    refine wpOp_mono ?_ (hstep (fun j => listed.getD j false) a w i o ho (by rw [← same listed i (by omega)]; exact h1) hall hI)
    intro a' w' hI'
    refine ih (listed.setIfInBounds i true) a' w' (by simpa using hs) (by have := left_set h1 hlt; omega) ?_
    have e : (fun j => (listed.setIfInBounds i true).getD j false) = upd (fun j => listed.getD j false) i := by
      funext j
      unfold upd
      by_cases hj : j = i
      · subst hj
        simp [hs, hlt]
      · rw [if_neg hj, getD_set_ne false (Ne.symm hj)]
    rw [e]
    exact hI'
theorem region_inv {id : Nat} {a : Act} {w : World} (hm : P.follows .mixedOrders = true) (I : (Nat → Bool) → Act → World → Prop)
    (hac : ∀ i o, ops[i]? = some o → ∀ e ∈ o.after, Region.binds .any e = true → e.on < i)
    (h0 : I (fun _ => false) a w.drew)
    (hstep : ∀ L a w i o, ops[i]? = some o → L i = false → (∀ e ∈ o.after, Region.binds .any e = true → L e.on = true) → I L a w → wpOp P ops Q i (fun a' w' => I (upd L i) a' w') a w)
    (hend : ∀ L a w, (∀ i, i < ops.size → L i = true) → I L a w → Q .normal a w) : (Code.region id ops true).wp P Q a w := by
  refine wp_region_any hm ?_
  refine any_inv I hac hstep hend ops.size _ a _ (by simp) ?_ ?_
  · have : ∀ n, n ≤ ops.size → left (Array.replicate ops.size false) n ≤ n := by
      intro n
      induction n with
      | zero => intro _; simp [left]
      | succ n ih => intro h; simp only [left]; have := ih (by omega); split <;> omega
    exact this _ (Nat.le_refl _)
  · have e : (fun j => (Array.replicate ops.size false).getD j false) = fun _ => false := by
      funext j
      by_cases hj : j < ops.size
      · simp [hj]
      · simp [Array.getElem?_eq_none (show (Array.replicate ops.size false).size ≤ j by simp; omega)]
    rw [e]
    exact h0
end Go.Proofs.YthlacailhfhjnaaGreatDoor
