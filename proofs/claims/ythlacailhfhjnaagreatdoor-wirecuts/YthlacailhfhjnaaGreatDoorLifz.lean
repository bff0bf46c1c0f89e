import Derived.Test.YthlacailhfhjnaaGreatDoorLai
import Derived.Test.YthlacailhfhjnaaGreatDoorWbz
import Derived.Deep.Slices
import Derived.SizedLaws
import Derived.Test.YthlacailhfhjnaaGreatDoorWez
namespace Go.Proofs.YthlacailhfhjnaaGreatDoor
open Go Go.ChangeShapes Go.WideShapes Go.ChangeAt
theorem bytes35 : Tryz.prog.bytesOf 35 = 32 := by kernel_rfl
theorem cells35 : Tryz.prog.cellsOf 35 = 2 := by kernel_rfl
theorem cells9 : Tryz.prog.cellsOf 9 = 1 := by kernel_rfl
theorem weigh_all {H : Type} {P : Program} {e : TypeId} {d : DataW H} {x : Nat} (hx : x ∈ DataW.weights P e d) : ∀ {l : List (DataW H)}, d ∈ l → x ∈ DataW.weightsAll P e l
  | y :: l, h => by
    rcases List.mem_cons.1 h with rfl | h
    · exact List.mem_append.2 (.inl hx)
    · exact List.mem_append.2 (.inr (weigh_all hx h))
/-- What stands in a field's two cells. -/
structure FlAt {H : Type} (W : World) (a : Addr) (i : Nat) (D : Nat → DataW H) (q : Fl) : Prop where
  c0 : W.cell? (a.add (i * 2)) = some (S q.1)
  c1 : W.cell? (a.add (i * 2 + 1)) = some (S q.2)
  d : D i = .agg [.lit (.string q.1), .lit (.string q.2)]
theorem getD_at {α : Type} (f : Nat → α) (d : α) (n k : Nat) (h : k < n) : ((List.range n).map f).getD k d = f k := by simp [h]
set_option maxRecDepth 20000 in
/-- Fields inside an argument: what they are, and how long their texts can be. -/
theorem open_fields {H : Type} {enc : TypeId × Value → H} {W : World} {v : Value} {fuel : Nat} {y : DataW H × List MemPlace}
    (hf : DataW.trod enc Tryz.prog W 0 (fun _ => true) true fuel 22 [v] = some y) (hsz : ∀ x ∈ DataW.weights Tryz.prog 22 y.1, x ≤ 140737488351232) :
    ∃ (a : Option Addr) (qs : List Fl) (cap : Nat), v = .slice a qs.length cap ∧ Fls W a qs.length qs ∧ qs.length ≤ 140737488351232 ∧ Lens qs := by
  rcases Go.Deep.open_slice Tryz.underlying22 hf with ⟨hcs, _⟩ | ⟨x, l, c, m, n, D, Pl, hcs, _, hl, hm, hmm, hx, hel⟩
  · simp at hcs
    exact ⟨none, [], 0, hcs, Fls.nil _ _, by simp, fun k => by simp [fl0]⟩
  · simp at hcs
    simp only [if_true] at hmm
    subst hmm
    obtain ⟨d, ps⟩ := y
    have hd' : d = .slice ((List.range l).map D) ((List.range (m - l)).map fun j => D (l + j)) := congrArg Prod.fst hx
    subst hd'
    have h1 : (l + (m - l)) * 32 ≤ 140737488351232 := by
      have := hsz ((l + (m - l)) * 32) (by simp [DataW.weights, Tryz.underlying22, bytes35])
      exact this
    have each : ∀ i, i < m → ∃ q : Fl, FlAt W x i D q := by
      intro i hi
      obtain ⟨cs', h1, h2⟩ := hel i hi
      rw [cells35] at h1
      obtain ⟨_, hlen, hcell⟩ := World.cells?_some h1
      obtain ⟨xs, k, hk, hxy, _, hxl, hf⟩ := DataW.trod_struct Tryz.underlying35 h2
      match xs, hxl, cs', hlen with
      | [y0, y1], _, [v0, v1], _ =>
        have g0 := hf 0 _ rfl
        have g1 := hf 1 _ rfl
        simp [cells9] at g0 g1
        have e0 := hcell 0 (by omega)
        have e1 := hcell 1 (by omega)
        rw [Go.Deep.add_add] at e0 e1
        obtain ⟨z0, ez0, rfl, _⟩ := DataW.trod_string Tryz.underlying9 g0
        obtain ⟨z1, ez1, rfl, _⟩ := DataW.trod_string Tryz.underlying9 g1
        simp only [List.cons.injEq, and_true] at ez0 ez1
        subst ez0 ez1
        simp only [Prod.mk.injEq] at hxy
        exact ⟨(z0.data.toList, z1.data.toList), by simpa [S] using e0, by simpa [S] using e1, by simpa using hxy.1⟩
    have : Inhabited Fl := ⟨fl0⟩
    obtain ⟨q, hq⟩ := Go.Deep.choose_lt each
    have hlen : ((List.range l).map q).length = l := by simp
    have htl : Lens ((List.range l).map q) := by
      intro k
      by_cases hk : k < l
      · rw [getD_at q fl0 l k hk]
        have e := (hq k (by omega)).d
        have key : ∀ y, y ∈ DataW.weights (H := H) Tryz.prog 35 (.agg [.lit (.string (q k).1), .lit (.string (q k).2)]) → y ≤ 140737488351232 := by
          intro y hy
          refine hsz y ?_
          simp only [DataW.weights, Tryz.underlying22]
          refine List.mem_cons_of_mem _ (List.mem_append.2 (.inl (weigh_all (d := D k) ?_ (List.mem_map.2 ⟨k, List.mem_range.2 hk, rfl⟩))))
          rw [e]
          exact hy
        refine ⟨key _ ?_, key _ ?_⟩
        · simp only [DataW.weights, Tryz.underlying35]
          simp [DataW.weightsEach, DataW.weights]
        · simp only [DataW.weights, Tryz.underlying35]
          simp [DataW.weightsEach, DataW.weights]
      · rw [List.getD_eq_getElem?_getD, List.getElem?_eq_none (by simp; omega)]
        simp [fl0]
    refine ⟨some x, (List.range l).map q, m, by rw [hlen]; exact hcs, ⟨rfl, fun h0 => ?_⟩, by rw [hlen]; omega, htl⟩
    rw [hlen] at h0 ⊢
    obtain ⟨b, off, spot⟩ := x
    have hspot : spot = none := by simpa [Addr.add] using World.cell?_spot (hq 0 (by omega)).c0
    subst hspot
    refine ⟨b, off, rfl, fun k hk => ?_⟩
    rw [getD_at q fl0 l k hk]
    have := hq k (by omega)
    have e0 := this.c0
    have e1 := this.c1
    rw [WideShapes.add_plain] at e0 e1
    exact ⟨e0, e1⟩
theorem cells22 : Tryz.prog.cellsOf 22 = 1 := by kernel_rfl
theorem cells3 : Tryz.prog.cellsOf 3 = 1 := by kernel_rfl
theorem cells26 : Tryz.prog.cellsOf 26 = 3 := by kernel_rfl
theorem cells24 : Tryz.prog.cellsOf 24 = 4 := by kernel_rfl
theorem i64_of {z : Int} (h : (Lit.int .i64 z).wf = true) : -9223372036854775808 ≤ z ∧ z ≤ 9223372036854775807 := by
  simpa [Lit.wf, IntKind.min, IntKind.max, IntKind.bits, IntKind.signed] using h
set_option maxRecDepth 20000 in
theorem open_answer {H : Type} {enc : TypeId × Value → H} {W : World} {v : Value} {base : Nat} {d : DataW H} {ps : List MemPlace} (hval : Value.okWide Tryz.prog W .any base 26 v)
    (h : DataW.Trod enc Tryz.prog W 0 (fun _ => true) true 26 v d ps) (hsz : ∀ x ∈ DataW.weights Tryz.prog 26 d, x ≤ 140737488351232) :
    ∃ (st : Int) (a : Option Addr) (qs : List Fl) (cap : Nat) (b : Bs), v = .agg #[.int .i64 st, .slice a qs.length cap, S b] ∧ (-9223372036854775808 ≤ st ∧ st ≤ 9223372036854775807) ∧ Fls W a qs.length qs ∧ qs.length ≤ 140737488351232 ∧ Lens qs ∧ b.length ≤ 140737488351232 := by
  obtain ⟨cs, rfl, hc⟩ := okWide_struct Tryz.underlying26 hval
  rw [cells26] at hc
  obtain ⟨fuel, hf⟩ := h
  obtain ⟨xs, k, hk, hxy, _, hxl, hfs⟩ := DataW.trod_struct Tryz.underlying26 hf
  obtain ⟨l⟩ := cs
  match xs, hxl, l, hc with
  | [y0, y1, y2], _, [v0, v1, v2], _ =>
    have g0 := hfs 0 _ rfl
    have g1 := hfs 1 _ rfl
    have g2 := hfs 2 _ rfl
    simp [cells9, cells22, cells3, Value.cells] at g0 g1 g2
    simp at hxy
    obtain ⟨rfl, _⟩ := hxy
    have key : ∀ x, x ∈ DataW.weights Tryz.prog 22 y1.1 ∨ x ∈ DataW.weights Tryz.prog 9 y2.1 → x ≤ 140737488351232 := by
      intro x hx
      refine hsz x ?_
      simp only [DataW.weights, Tryz.underlying26]
      simp [DataW.weightsEach]
      rcases hx with hx | hx
      · simp [hx]
      · simp [hx]
    obtain ⟨z0, ez0, rfl, w0⟩ := DataW.trod_int Tryz.underlying3 g0
    obtain ⟨z2, ez2, rfl, _⟩ := DataW.trod_string Tryz.underlying9 g2
    obtain ⟨a, qs, cap, rfl, f1, f2, f3⟩ := open_fields g1 (fun x hx => key x (.inl hx))
    simp only [List.cons.injEq, and_true] at ez0 ez2
    subst ez0 ez2
    exact ⟨z0, a, qs, cap, z2.data.toList, by simp [S], i64_of w0, f1, f2, f3, key _ (.inr (by simp [DataW.weights]))⟩
set_option maxRecDepth 20000 in
theorem open_message {H : Type} {enc : TypeId × Value → H} {W : World} {v : Value} {base : Nat} {d : DataW H} {ps : List MemPlace} (hval : Value.okWide Tryz.prog W .any base 24 v)
    (h : DataW.Trod enc Tryz.prog W 0 (fun _ => true) true 24 v d ps) (hsz : ∀ x ∈ DataW.weights Tryz.prog 24 d, x ≤ 140737488351232) :
    ∃ (m : Ms) (a : Option Addr) (cap : Nat), v = .agg #[S m.m, S m.p, .slice a m.hs.length cap, S m.b] ∧ Fls W a m.hs.length m.hs ∧ m.hs.length ≤ 140737488351232 ∧ Lens m.hs ∧ m.m.length ≤ 140737488351232 ∧ m.p.length ≤ 140737488351232 ∧ m.b.length ≤ 140737488351232 := by
  obtain ⟨cs, rfl, hc⟩ := okWide_struct Tryz.underlying24 hval
  rw [cells24] at hc
  obtain ⟨fuel, hf⟩ := h
  obtain ⟨xs, k, hk, hxy, _, hxl, hfs⟩ := DataW.trod_struct Tryz.underlying24 hf
  obtain ⟨l⟩ := cs
  match xs, hxl, l, hc with
  | [y0, y1, y2, y3], _, [v0, v1, v2, v3], _ =>
    have g0 := hfs 0 _ rfl
    have g1 := hfs 1 _ rfl
    have g2 := hfs 2 _ rfl
    have g3 := hfs 3 _ rfl
    simp [cells9, cells22, Value.cells] at g0 g1 g2 g3
    simp at hxy
    obtain ⟨rfl, _⟩ := hxy
    have key : ∀ x, (x ∈ DataW.weights Tryz.prog 9 y0.1 ∨ x ∈ DataW.weights Tryz.prog 9 y1.1 ∨ x ∈ DataW.weights Tryz.prog 22 y2.1 ∨ x ∈ DataW.weights Tryz.prog 9 y3.1) → x ≤ 140737488351232 := by
      intro x hx
      refine hsz x ?_
      simp only [DataW.weights, Tryz.underlying24]
      simp [DataW.weightsEach]
      rcases hx with hx | hx | hx | hx <;> simp [hx]
    obtain ⟨z0, ez0, rfl, _⟩ := DataW.trod_string Tryz.underlying9 g0
    obtain ⟨z1, ez1, rfl, _⟩ := DataW.trod_string Tryz.underlying9 g1
    obtain ⟨z3, ez3, rfl, _⟩ := DataW.trod_string Tryz.underlying9 g3
    obtain ⟨a, qs, cap, rfl, f1, f2, f3⟩ := open_fields g2 (fun x hx => key x (.inr (.inr (.inl hx))))
    simp only [List.cons.injEq, and_true] at ez0 ez1 ez3
    subst ez0 ez1 ez3
    exact ⟨⟨z0.data.toList, z1.data.toList, qs, z3.data.toList⟩, a, cap, by simp [S], f1, f2, f3, key _ (.inl (by simp [DataW.weights])), key _ (.inr (.inl (by simp [DataW.weights]))), key _ (.inr (.inr (.inr (by simp [DataW.weights]))))⟩
theorem laidOut : laidOutB Tryz.prog = true := by kernel_rfl
end Go.Proofs.YthlacailhfhjnaaGreatDoor
namespace Go.Proofs.YthlacailhfhjnaaGreatDoor
open Go Go.ChangeShapes Go.WideShapes Go.ChangeAt
theorem bytes24 : Tryz.prog.bytesOf 24 = 72 := by kernel_rfl
theorem bytes3 : Tryz.prog.bytesOf 3 = 8 := by kernel_rfl
theorem lnm0 : Lnm ms0 := ⟨fun k => by simp [ms0, fl0], by simp [ms0], by simp [ms0], by simp [ms0], by simp [ms0]⟩
set_option maxRecDepth 20000 in
/-- Numbers among the arguments. -/
theorem open_nums {H : Type} {enc : TypeId × Value → H} {W : World} {a : Option Addr} {len cap : Nat} {d : DataW H} {ps : List MemPlace} {ts : List TypeId} {ds : List (DataW H)} {j : Nat}
    (h : DataW.Trod enc Tryz.prog W 0 (fun _ => true) true 50 (.slice a len cap) d ps) (ht : ts[j]? = some 50) (hd : ds[j]? = some d) (hsz : (DataW.weightsEach Tryz.prog ts ds).all (· ≤ reachBytes) = true) :
    ∃ zs : List Int, len = zs.length ∧ Ils W a zs.length zs ∧ zs.length ≤ 140737488351232 ∧ ∀ k, -9223372036854775808 ≤ zs.getD k 0 ∧ zs.getD k 0 ≤ 9223372036854775807 := by
  obtain ⟨fuel, hf⟩ := h
  rcases Go.Deep.open_slice1 Tryz.underlying50 cells3 hf with ⟨hcs, _⟩ | ⟨x, l, c, m, n, V, D, Pl, hcs, _, hl, hm, hmm, hx, hel⟩
  · simp [Value.cells] at hcs
    obtain ⟨rfl, rfl, rfl⟩ := hcs
    exact ⟨[], rfl, ⟨rfl, fun h => absurd h (by simp)⟩, by simp, fun k => by simp⟩
  · simp [Value.cells] at hcs
    obtain ⟨rfl, rfl, rfl⟩ := hcs
    simp only [if_true] at hmm
    subst hmm
    have hd' : d = .slice ((List.range len).map D) ((List.range (m - len)).map fun j => D (len + j)) := congrArg Prod.fst hx
    subst hd'
    have h1 := sized_slice hsz ht hd Tryz.underlying50
    rw [bytes3] at h1
    have each : ∀ i, i < m → ∃ z : Int, W.cell? (x.add i) = some (.int .i64 z) ∧ -9223372036854775808 ≤ z ∧ z ≤ 9223372036854775807 := by
      intro i hi
      obtain ⟨h1, h2⟩ := hel i hi
      obtain ⟨z, ez, _, w0⟩ := DataW.trod_int Tryz.underlying3 h2
      simp only [List.cons.injEq, and_true] at ez
      rw [ez] at h1
      exact ⟨z, h1, i64_of w0⟩
    obtain ⟨z, hz⟩ := Go.Deep.choose_lt each
    have hlen : ((List.range len).map z).length = len := by simp
    refine ⟨(List.range len).map z, hlen.symm, ⟨rfl, fun h0 => ?_⟩, ?_, fun k => ?_⟩
    · rw [hlen] at h0 ⊢
      obtain ⟨b, off, spot⟩ := x
      have hspot : spot = none := by simpa [Addr.add] using World.cell?_spot (hz 0 (by omega)).1
      subst hspot
      refine ⟨b, off, rfl, fun k hk => ?_⟩
      rw [getD_at z 0 len k hk]
      have := (hz k (by omega)).1
      rw [WideShapes.add_plain] at this
      exact this
    · rw [hlen]
      have hr : reachBytes = 140737488351232 := rfl
      simp only [List.length_map, List.length_range] at h1
      omega
    · by_cases hk : k < len
      · rw [getD_at z 0 len k hk]
        exact (hz k (by omega)).2
      · rw [List.getD_eq_getElem?_getD, List.getElem?_eq_none (by simp; omega)]
        simp
/-- What stands in a message's four cells. -/
structure MsAt {H : Type} (W : World) (a : Addr) (i : Nat) (D : Nat → DataW H) (q : Ms) : Prop where
  c : ∃ ha hc, W.cell? (a.add (i * 4)) = some (S q.m) ∧ W.cell? (a.add (i * 4 + 1)) = some (S q.p) ∧ W.cell? (a.add (i * 4 + 2)) = some (.slice ha q.hs.length hc) ∧ W.cell? (a.add (i * 4 + 3)) = some (S q.b) ∧ Fls W ha q.hs.length q.hs
  l : (∀ x ∈ DataW.weights Tryz.prog 24 (D i), x ≤ 140737488351232) → Lnm q
set_option maxRecDepth 20000 in
/-- Messages among the arguments. -/
theorem open_messages {H : Type} {enc : TypeId × Value → H} {W : World} {a : Option Addr} {len cap : Nat} {d : DataW H} {ps : List MemPlace} {ts : List TypeId} {ds : List (DataW H)} {j : Nat}
    (h : DataW.Trod enc Tryz.prog W 0 (fun _ => true) true 54 (.slice a len cap) d ps) (ht : ts[j]? = some 54) (hd : ds[j]? = some d) (hsz : (DataW.weightsEach Tryz.prog ts ds).all (· ≤ reachBytes) = true) :
    ∃ ms : List Ms, len = ms.length ∧ Mls W a ms.length ms ∧ ms.length ≤ 140737488351232 ∧ ∀ k, Lnm (ms.getD k ms0) := by
  obtain ⟨fuel, hf⟩ := h
  rcases Go.Deep.open_slice Tryz.underlying54 hf with ⟨hcs, _⟩ | ⟨x, l, c, m, n, D, Pl, hcs, _, hl, hm, hmm, hx, hel⟩
  · simp [Value.cells] at hcs
    obtain ⟨rfl, rfl, rfl⟩ := hcs
    exact ⟨[], rfl, ⟨rfl, fun h => absurd h (by simp)⟩, by simp, fun k => by simpa using lnm0⟩
  · simp [Value.cells] at hcs
    obtain ⟨rfl, rfl, rfl⟩ := hcs
    simp only [if_true] at hmm
    subst hmm
    have hd' : d = .slice ((List.range len).map D) ((List.range (m - len)).map fun j => D (len + j)) := congrArg Prod.fst hx
    subst hd'
    have h1 := sized_slice hsz ht hd Tryz.underlying54
    rw [bytes24] at h1
    have hw : ∀ k, k < m → ∀ x ∈ DataW.weights Tryz.prog 24 (D k), x ≤ 140737488351232 := by
      intro k hk y hy
      refine of_decide_eq_true (List.all_eq_true.1 hsz _ (DataW.weights_mem_each ht hd y ?_))
      show _ ∈ DataW.weights Tryz.prog 54 (.slice _ _)
      simp only [DataW.weights, Tryz.underlying54]
      by_cases hkl : k < len
      · exact List.mem_cons_of_mem _ (List.mem_append.2 (.inl (weigh_all (d := D k) hy (List.mem_map.2 ⟨k, List.mem_range.2 hkl, rfl⟩))))
      · exact List.mem_cons_of_mem _ (List.mem_append.2 (.inr (weigh_all (d := D k) hy (List.mem_map.2 ⟨k - len, List.mem_range.2 (by omega), by rw [show len + (k - len) = k by omega]⟩))))
    have each : ∀ i, i < m → ∃ q : Ms, MsAt W x i D q := by
      intro i hi
      obtain ⟨cs', h1, h2⟩ := hel i hi
      rw [cells24] at h1
      obtain ⟨_, hlen, hcell⟩ := World.cells?_some h1
      obtain ⟨xs, k, hk, hxy, _, hxl, hfs⟩ := DataW.trod_struct Tryz.underlying24 h2
      match xs, hxl, cs', hlen with
      | [y0, y1, y2, y3], _, [v0, v1, v2, v3], _ =>
        have g0 := hfs 0 _ rfl
        have g1 := hfs 1 _ rfl
        have g2 := hfs 2 _ rfl
        have g3 := hfs 3 _ rfl
        simp [cells9, cells22] at g0 g1 g2 g3
        have e0 := hcell 0 (by omega)
        have e1 := hcell 1 (by omega)
        have e2 := hcell 2 (by omega)
        have e3 := hcell 3 (by omega)
        rw [Go.Deep.add_add] at e0 e1 e2 e3
        simp only [Prod.mk.injEq] at hxy
        have hw' := hw i hi
        rw [hxy.1] at hw'
        have key : ∀ x, (x ∈ DataW.weights Tryz.prog 9 y0.1 ∨ x ∈ DataW.weights Tryz.prog 9 y1.1 ∨ x ∈ DataW.weights Tryz.prog 22 y2.1 ∨ x ∈ DataW.weights Tryz.prog 9 y3.1) → x ≤ 140737488351232 := by
          intro x hx
          refine hw' x ?_
          simp only [List.map_cons, List.map_nil, DataW.weights, Tryz.underlying24]
          simp [DataW.weightsEach]
          rcases hx with hx | hx | hx | hx <;> simp [hx]
        obtain ⟨z0, ez0, rfl, _⟩ := DataW.trod_string Tryz.underlying9 g0
        obtain ⟨z1, ez1, rfl, _⟩ := DataW.trod_string Tryz.underlying9 g1
        obtain ⟨z3, ez3, rfl, _⟩ := DataW.trod_string Tryz.underlying9 g3
        obtain ⟨a', qs, cap', rfl, f1, f2, f3⟩ := open_fields g2 (fun x hx => key x (.inr (.inr (.inl hx))))
        simp only [List.cons.injEq, and_true] at ez0 ez1 ez3
        subst ez0 ez1 ez3
        refine ⟨⟨z0.data.toList, z1.data.toList, qs, z3.data.toList⟩, ⟨a', cap', by simpa [S] using e0, by simpa [S] using e1, by simpa using e2, by simpa [S] using e3, f1⟩, fun _ => ⟨f3, f2, key _ (.inl (by simp [DataW.weights])), key _ (.inr (.inl (by simp [DataW.weights]))), key _ (.inr (.inr (.inr (by simp [DataW.weights]))))⟩⟩
    have : Inhabited Ms := ⟨ms0⟩
    obtain ⟨q, hq⟩ := Go.Deep.choose_lt each
    have hlen : ((List.range len).map q).length = len := by simp
    refine ⟨(List.range len).map q, hlen.symm, ⟨rfl, fun h0 => ?_⟩, ?_, fun k => ?_⟩
    · rw [hlen] at h0 ⊢
      obtain ⟨b, off, spot⟩ := x
      have hspot : spot = none := by
        obtain ⟨_, _, h, _⟩ := (hq 0 (by omega)).c
        simpa [Addr.add] using World.cell?_spot h
      subst hspot
      refine ⟨b, off, rfl, fun k hk => ?_⟩
      rw [getD_at q ms0 len k hk]
      obtain ⟨ha, hc, e0, e1, e2, e3, f⟩ := (hq k (by omega)).c
      rw [WideShapes.add_plain] at e0 e1 e2 e3
      exact ⟨ha, hc, e0, e1, e2, e3, f⟩
    · rw [hlen]
      have hr : reachBytes = 140737488351232 := rfl
      simp only [List.length_map, List.length_range] at h1
      omega
    · by_cases hk : k < len
      · rw [getD_at q ms0 len k hk]
        exact (hq k (by omega)).l (hw k (by omega))
      · rw [List.getD_eq_getElem?_getD, List.getElem?_eq_none (by simp; omega)]
        simpa using lnm0
end Go.Proofs.YthlacailhfhjnaaGreatDoor
