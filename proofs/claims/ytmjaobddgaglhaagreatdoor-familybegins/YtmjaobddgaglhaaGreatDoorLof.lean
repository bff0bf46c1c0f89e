import Derived.Test.YtmjaobddgaglhaaGreatDoorLif
import Derived.Test.YtmjaobddgaglhaaGreatDoorZfde
namespace Go.Proofs.YtmjaobddgaglhaaGreatDoor
open Go Go.ChangeShapes Go.WideShapes Go.ChangeAt
theorem bytes9 : Tryz.prog.bytesOf 9 = 16 := by kernel_rfl
theorem cells22 : Tryz.prog.cellsOf 22 = 1 := by kernel_rfl
theorem cells3 : Tryz.prog.cellsOf 3 = 1 := by kernel_rfl
theorem cells4 : Tryz.prog.cellsOf 4 = 1 := by kernel_rfl
theorem cells40 : Tryz.prog.cellsOf 24 = 14 := by kernel_rfl
theorem cells58 : Tryz.prog.cellsOf 26 = 9 := by kernel_rfl
/-- A struct's own weights are those of its parts. -/
theorem sized_struct {H : Type} {P : Program} {ts : List TypeId} {ds : List (DataW H)} (h : (DataW.weightsEach P ts ds).all (· ≤ reachBytes) = true) {j : Nat} {t : TypeId} {fs : Array Field} {parts : List (DataW H)} (ht : ts[j]? = some t) (hd : ds[j]? = some (.agg parts)) (hu : P.underlying t = some (.struct fs)) :
    (DataW.weightsEach P (fs.toList.map (·.type)) parts).all (· ≤ reachBytes) = true := by
  refine List.all_eq_true.2 fun n hn => List.all_eq_true.1 h n (DataW.weights_mem_each ht hd n ?_)
  simp only [DataW.weights, hu]
  exact hn
set_option maxRecDepth 20000 in
/-- Texts among the arguments, or within a struct of them. -/
theorem open_list {H : Type} {enc : TypeId × Value → H} {W : World} {v : Value} {fuel : Nat} {y : DataW H × List MemPlace} {ts : List TypeId} {ds : List (DataW H)} {j : Nat} (hf : DataW.trod enc Tryz.prog W 0 (fun _ => true) true fuel 22 [v] = some y)
    (ht : ts[j]? = some 22) (hd : ds[j]? = some y.1) (hsz : (DataW.weightsEach Tryz.prog ts ds).all (· ≤ reachBytes) = true) :
    ∃ (a : Option Addr) (l : List Bs) (cap : Nat), v = .slice a l.length cap ∧ Sts W a l.length l ∧ l.length ≤ 140737488355000 ∧ Lns l ∧ l.length ≤ cap ∧ (a = none → cap = 0) := by
  rcases open_strings Tryz.underlying22 Tryz.underlying9 cells9 hf with ⟨hcs, _⟩ | ⟨x, len, c, ss, hcs, _, hl, hm, hss, hx, hel, hmx⟩
  · simp at hcs
    subst hcs
    exact ⟨none, [], 0, rfl, Sts.nil _ _, by simp, (fun j => by simp), by simp, fun _ => rfl⟩
  · simp at hcs
    subst hcs
    simp only [if_true] at hss
    have hd' : y.1 = .slice (strs (ss.take len)) (strs (ss.drop len)) := congrArg Prod.fst hx
    rw [hd'] at hd
    have h1 := sized_slice hsz ht hd Tryz.underlying22
    rw [bytes9] at h1
    have hlen : (ss.take len).length = len := by rw [List.length_take]; omega
    have hl2 : ((ss.take len).map fun s => s.data.toList).length = len := by rw [List.length_map, hlen]
    refine ⟨some x, (ss.take len).map fun s => s.data.toList, c, by rw [hl2], ⟨rfl, fun h0 => ?_⟩, ?_, ?_, by omega, fun e => by cases e⟩
    · rw [hl2] at h0 ⊢
      obtain ⟨b, off, spot⟩ := x
      have hspot : spot = none := by simpa [Addr.add] using World.cell?_spot (hel 0 (by omega))
      subst hspot
      refine ⟨b, off, rfl, fun k hk => ?_⟩
      have e0 := hel k (by omega)
      rw [WideShapes.add_plain] at e0
      rw [e0]
      have hk' : k < ss.length := by omega
      simp [hk, hk']
    · rw [hl2]
      have hr : reachBytes = 140737488351232 := rfl
      simp [strs] at h1
      omega
    · intro k
      by_cases hk : k < len
      · have hk' : k < ss.length := by omega
        have := hmx ss[k] (List.getElem_mem hk')
        unfold maxLen at this
        simpa [hk, hk'] using this
      · rw [List.getD_eq_getElem?_getD, List.getElem?_eq_none (by rw [hl2]; omega)]
        simp
/-- A text within a struct. -/
theorem open_text {H : Type} {enc : TypeId × Value → H} {W : World} {v : Value} {fuel : Nat} {y : DataW H × List MemPlace} (hf : DataW.trod enc Tryz.prog W 0 (fun _ => true) true fuel 9 [v] = some y) : ∃ x : Bs, v = S x ∧ x.length ≤ 9223372036854775807 := by
  obtain ⟨z, e, _, w⟩ := DataW.trod_string Tryz.underlying9 hf
  simp only [List.cons.injEq, and_true] at e
  subst e
  unfold maxLen at w
  exact ⟨z.data.toList, rfl, by rw [Array.length_toList]; exact Nat.le_trans w (by omega)⟩
/-- A number within a struct. -/
theorem open_int {H : Type} {enc : TypeId × Value → H} {W : World} {v : Value} {fuel : Nat} {y : DataW H × List MemPlace} (hf : DataW.trod enc Tryz.prog W 0 (fun _ => true) true fuel 3 [v] = some y) : ∃ x : Int, v = I x := by
  obtain ⟨z, e, _⟩ := DataW.trod_int Tryz.underlying3 hf
  simp only [List.cons.injEq, and_true] at e
  exact ⟨z, e⟩
/-- A truth within a struct. -/
theorem open_truth {H : Type} {enc : TypeId × Value → H} {W : World} {v : Value} {fuel : Nat} {y : DataW H × List MemPlace} (hf : DataW.trod enc Tryz.prog W 0 (fun _ => true) true fuel 4 [v] = some y) : ∃ x : Bool, v = .bool x := by
  obtain ⟨z, e, _⟩ := DataW.trod_bool Tryz.underlying4 hf
  simp only [List.cons.injEq, and_true] at e
  exact ⟨z, e⟩
set_option maxRecDepth 20000 in
/-- A family among the arguments. -/
theorem open_family {H : Type} {enc : TypeId × Value → H} {W : World} {v : Value} {base : Nat} {d : DataW H} {ps : List MemPlace} {ts : List TypeId} {ds : List (DataW H)} {j : Nat} (hval : Value.okWide Tryz.prog W .any base 24 v)
    (h : DataW.Trod enc Tryz.prog W 0 (fun _ => true) true 24 v d ps) (ht : ts[j]? = some 24) (hd : ds[j]? = some d) (hsz : (DataW.weightsEach Tryz.prog ts ds).all (· ≤ reachBytes) = true) :
    ∃ (id : Int) (cl su : Bs) (va : Option Addr) (vc : Nat) (sc : List Bs) (cr us il ab gr ge to st en co : Int), v = .agg #[I id, S cl, S su, .slice va sc.length vc, I cr, I us, I il, I ab, I gr, I ge, I to, I st, I en, I co] ∧ cl.length ≤ 9223372036854775807 ∧ su.length ≤ 9223372036854775807 ∧ Sts W va sc.length sc ∧ sc.length ≤ 140737488355000 ∧ Lns sc ∧ sc.length ≤ vc ∧ (va = none → vc = 0) := by
  obtain ⟨cs, rfl, hc⟩ := okWide_struct Tryz.underlying24 hval
  rw [cells40] at hc
  obtain ⟨fuel, hf⟩ := h
  obtain ⟨xs, k, hk, hxy, _, hxl, hfs⟩ := DataW.trod_struct Tryz.underlying24 hf
  have hd2 : d = .agg (xs.map (·.1)) := congrArg Prod.fst hxy
  subst hd2
  have hs2 := sized_struct hsz ht hd Tryz.underlying24
  obtain ⟨l⟩ := cs
  match xs, hxl, l, hc with
  | [y0, y1, y2, y3, y4, y5, y6, y7, y8, y9, y10, y11, y12, y13], _, [v0, v1, v2, v3, v4, v5, v6, v7, v8, v9, v10, v11, v12, v13], _ =>
    have g0 := hfs 0 _ rfl
    have g1 := hfs 1 _ rfl
    have g2 := hfs 2 _ rfl
    have g3 := hfs 3 _ rfl
    have g4 := hfs 4 _ rfl
    have g5 := hfs 5 _ rfl
    have g6 := hfs 6 _ rfl
    have g7 := hfs 7 _ rfl
    have g8 := hfs 8 _ rfl
    have g9 := hfs 9 _ rfl
    have g10 := hfs 10 _ rfl
    have g11 := hfs 11 _ rfl
    have g12 := hfs 12 _ rfl
    have g13 := hfs 13 _ rfl
    simp [cells9, cells3, cells22, Value.cells] at g0 g1 g2 g3 g4 g5 g6 g7 g8 g9 g10 g11 g12 g13
    obtain ⟨z0, rfl⟩ := open_int g0
    obtain ⟨z1, rfl, b1⟩ := open_text g1
    obtain ⟨z2, rfl, b2⟩ := open_text g2
    obtain ⟨va, l3, vc, rfl, c1, c2, c3, c4, c5⟩ := open_list (j := 3) g3 rfl rfl hs2
    obtain ⟨z4, rfl⟩ := open_int g4
    obtain ⟨z5, rfl⟩ := open_int g5
    obtain ⟨z6, rfl⟩ := open_int g6
    obtain ⟨z7, rfl⟩ := open_int g7
    obtain ⟨z8, rfl⟩ := open_int g8
    obtain ⟨z9, rfl⟩ := open_int g9
    obtain ⟨z10, rfl⟩ := open_int g10
    obtain ⟨z11, rfl⟩ := open_int g11
    obtain ⟨z12, rfl⟩ := open_int g12
    obtain ⟨z13, rfl⟩ := open_int g13
    exact ⟨z0, z1, z2, va, vc, l3, z4, z5, z6, z7, z8, z9, z10, z11, z12, z13, rfl, b1, b2, c1, c2, c3, c4, c5⟩
set_option maxRecDepth 20000 in
/-- A token among the arguments. -/
theorem open_token {H : Type} {enc : TypeId × Value → H} {W : World} {v : Value} {base : Nat} {d : DataW H} {ps : List MemPlace} (hval : Value.okWide Tryz.prog W .any base 26 v)
    (h : DataW.Trod enc Tryz.prog W 0 (fun _ => true) true 26 v d ps) :
    ∃ (id fa ge : Int) (ha : Bs) (mi : Int) (sp : Bool) (at' ne : Int) (se : Bs), v = .agg #[I id, I fa, I ge, S ha, I mi, .bool sp, I at', I ne, S se] ∧ ha.length ≤ 9223372036854775807 ∧ se.length ≤ 9223372036854775807 := by
  obtain ⟨cs, rfl, hc⟩ := okWide_struct Tryz.underlying26 hval
  rw [cells58] at hc
  obtain ⟨fuel, hf⟩ := h
  obtain ⟨xs, k, hk, hxy, _, hxl, hfs⟩ := DataW.trod_struct Tryz.underlying26 hf
  obtain ⟨l⟩ := cs
  match xs, hxl, l, hc with
  | [y0, y1, y2, y3, y4, y5, y6, y7, y8], _, [v0, v1, v2, v3, v4, v5, v6, v7, v8], _ =>
    have g0 := hfs 0 _ rfl
    have g1 := hfs 1 _ rfl
    have g2 := hfs 2 _ rfl
    have g3 := hfs 3 _ rfl
    have g4 := hfs 4 _ rfl
    have g5 := hfs 5 _ rfl
    have g6 := hfs 6 _ rfl
    have g7 := hfs 7 _ rfl
    have g8 := hfs 8 _ rfl
    simp [cells9, cells3, cells4, Value.cells] at g0 g1 g2 g3 g4 g5 g6 g7 g8
    obtain ⟨z0, rfl⟩ := open_int g0
    obtain ⟨z1, rfl⟩ := open_int g1
    obtain ⟨z2, rfl⟩ := open_int g2
    obtain ⟨z3, rfl, b3⟩ := open_text g3
    obtain ⟨z4, rfl⟩ := open_int g4
    obtain ⟨z5, rfl⟩ := open_truth g5
    obtain ⟨z6, rfl⟩ := open_int g6
    obtain ⟨z7, rfl⟩ := open_int g7
    obtain ⟨z8, rfl, b8⟩ := open_text g8
    exact ⟨z0, z1, z2, z3, z4, z5, z6, z7, z8, rfl, b3, b8⟩
end Go.Proofs.YtmjaobddgaglhaaGreatDoor
