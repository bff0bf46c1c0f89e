import Derived.Test.YteahenojgcffpaaRows
import Derived.Test.YteahenojgcffpaaCkf
import Derived.SizedLaws
import Derived.WalkKit
import Derived.ProofKit
import Derived.OpenShut
import Derived.ShutString
import Derived.Deep.Slices
namespace Go.Proofs.Yteahenojgcffpaa
open Go Go.ChangeShapes Go.WideShapes Go.ChangeAt
theorem bytes3 : Try.prog.bytesOf 3 = 8 := by kernel_rfl
theorem bytes29 : Try.prog.bytesOf 29 = 16 := by kernel_rfl
theorem cells3 : Try.prog.cellsOf 3 = 1 := by kernel_rfl
theorem cells4 : Try.prog.cellsOf 4 = 1 := by kernel_rfl
theorem cells29 : Try.prog.cellsOf 29 = 3 := by kernel_rfl
theorem i64_of {n : Int} (h : (Lit.int .i64 n).wf = true) : -9223372036854775808 ≤ n ∧ n ≤ 9223372036854775807 := by
  simp [Lit.wf, IntKind.min, IntKind.max, IntKind.signed, IntKind.bits] at h
  omega
theorem getD_at {α : Type} (f : Nat → α) (d : α) (n k : Nat) (h : k < n) : ((List.range n).map f).getD k d = f k := by simp [h]
set_option maxRecDepth 20000 in
/-- Numbers among the arguments. -/
theorem open_nums {H : Type} {enc : TypeId × Value → H} {W : World} {a : Option Addr} {len cap : Nat} {d : DataW H} {ps : List MemPlace} {ts : List TypeId} {ds : List (DataW H)} {j : Nat}
    (h : DataW.Trod enc Try.prog W 0 (fun _ => true) true 33 (.slice a len cap) d ps) (ht : ts[j]? = some 33) (hd : ds[j]? = some d) (hsz : (DataW.weightsEach Try.prog ts ds).all (· ≤ reachBytes) = true) :
    ∃ zs : List Int, len = zs.length ∧ Ns W a zs.length zs ∧ zs.length * 8 ≤ 140737488351232 ∧ (a = none → cap = 0) := by
  obtain ⟨fuel, hf⟩ := h
  rcases Go.Deep.open_slice1 Try.underlying33 cells3 hf with ⟨hcs, _⟩ | ⟨x, l, c, m, n, V, D, Pl, hcs, _, hl, hm, hmm, hx, hel⟩
  · simp [Value.cells] at hcs
    obtain ⟨rfl, rfl, rfl⟩ := hcs
    exact ⟨[], rfl, ⟨rfl, fun h => absurd h (by simp)⟩, by simp, fun _ => rfl⟩
  · simp [Value.cells] at hcs
    obtain ⟨rfl, rfl, rfl⟩ := hcs
    simp only [if_true] at hmm
    subst hmm
    have hd' : d = .slice ((List.range len).map D) ((List.range (m - len)).map fun j => D (len + j)) := congrArg Prod.fst hx
    subst hd'
    have h1 := sized_slice hsz ht hd Try.underlying33
    rw [bytes3] at h1
    have each : ∀ i, i < m → ∃ z : Int, W.cell? (x.add i) = some (.int .i64 z) := by
      intro i hi
      obtain ⟨h1, h2⟩ := hel i hi
      obtain ⟨z, ez, _, w0⟩ := DataW.trod_int Try.underlying3 h2
      simp only [List.cons.injEq, and_true] at ez
      rw [ez] at h1
      exact ⟨z, h1⟩
    obtain ⟨z, hz⟩ := Go.Deep.choose_lt each
    have hlen : ((List.range len).map z).length = len := by simp
    refine ⟨(List.range len).map z, hlen.symm, ⟨rfl, fun h0 => ?_⟩, ?_, fun h => nomatch h⟩
    · rw [hlen] at h0 ⊢
      obtain ⟨b, off, spot⟩ := x
      have hspot : spot = none := by simpa [Addr.add] using World.cell?_spot (hz 0 (by omega))
      subst hspot
      refine ⟨b, off, rfl, fun k hk => ?_⟩
      rw [getD_at z 0 len k hk]
      have := hz k (by omega)
      rw [WideShapes.add_plain] at this
      exact this
    · rw [hlen]
      have hr : reachBytes = 140737488351232 := rfl
      simp only [List.length_map, List.length_range] at h1
      omega
/-- What stands in a step's three cells. -/
structure TkAt (W : World) (a : Addr) (i : Nat) (q : Tk) : Prop where
  c0 : W.cell? (a.add (i * 3)) = some (.bool q.o)
  c1 : W.cell? (a.add (i * 3 + 1)) = some (.bool q.a)
  c2 : W.cell? (a.add (i * 3 + 2)) = some (I q.r)
set_option maxRecDepth 20000 in
/-- Steps among the arguments. -/
theorem open_ticks {H : Type} {enc : TypeId × Value → H} {W : World} {a : Option Addr} {len cap : Nat} {d : DataW H} {ps : List MemPlace} {ts : List TypeId} {ds : List (DataW H)} {j : Nat}
    (h : DataW.Trod enc Try.prog W 0 (fun _ => true) true 22 (.slice a len cap) d ps) (ht : ts[j]? = some 22) (hd : ds[j]? = some d) (hsz : (DataW.weightsEach Try.prog ts ds).all (· ≤ reachBytes) = true) :
    ∃ qs : List Tk, len = qs.length ∧ Tks W a qs.length qs ∧ qs.length ≤ 140737488351232 := by
  obtain ⟨fuel, hf⟩ := h
  rcases Go.Deep.open_slice Try.underlying22 hf with ⟨hcs, _⟩ | ⟨x, l, c, m, n, D, Pl, hcs, _, hl, hm, hmm, hx, hel⟩
  · simp [Value.cells] at hcs
    obtain ⟨rfl, rfl, rfl⟩ := hcs
    exact ⟨[], rfl, ⟨rfl, fun q => by simp at q⟩, by simp⟩
  · simp [Value.cells] at hcs
    obtain ⟨rfl, rfl, rfl⟩ := hcs
    simp only [if_true] at hmm
    subst hmm
    have hd' : d = .slice ((List.range len).map D) ((List.range (m - len)).map fun j => D (len + j)) := congrArg Prod.fst hx
    subst hd'
    have h1 := sized_slice hsz ht hd Try.underlying22
    rw [bytes29] at h1
    have each : ∀ i, i < m → ∃ q : Tk, TkAt W x i q := by
      intro i hi
      obtain ⟨cs', h1, h2⟩ := hel i hi
      rw [cells29] at h1
      obtain ⟨_, hlen, hcell⟩ := World.cells?_some h1
      obtain ⟨xs, k, hk, hxy, _, hxl, hf⟩ := DataW.trod_struct Try.underlying29 h2
      match xs, hxl, cs', hlen with
      | [y0, y1, y2], _, [v0, v1, v2], _ =>
        have g0 := hf 0 _ rfl
        have g1 := hf 1 _ rfl
        have g2 := hf 2 _ rfl
        simp [cells3, cells4] at g0 g1 g2
        have e0 := hcell 0 (by omega)
        have e1 := hcell 1 (by omega)
        have e2 := hcell 2 (by omega)
        rw [Go.Deep.add_add] at e0 e1 e2
        obtain ⟨z0, ez0, rfl⟩ := DataW.trod_bool Try.underlying4 g0
        obtain ⟨z1, ez1, rfl⟩ := DataW.trod_bool Try.underlying4 g1
        obtain ⟨z2, ez2, rfl, _⟩ := DataW.trod_int Try.underlying3 g2
        simp only [List.cons.injEq, and_true] at ez0 ez1 ez2
        subst ez0 ez1 ez2
        exact ⟨⟨z0, z1, z2⟩, by simpa using e0, by simpa using e1, by simpa using e2⟩
    have : Inhabited Tk := ⟨tk0⟩
    obtain ⟨q, hq⟩ := Go.Deep.choose_lt each
    have hlen : ((List.range len).map q).length = len := by simp
    refine ⟨(List.range len).map q, hlen.symm, ⟨rfl, fun h0 => ?_⟩, ?_⟩
    · rw [hlen] at h0 ⊢
      obtain ⟨b, off, spot⟩ := x
      have hspot : spot = none := by simpa [Addr.add] using World.cell?_spot (hq 0 (by omega)).c0
      subst hspot
      refine ⟨b, off, rfl, fun k hk => ?_⟩
      rw [getD_at q tk0 len k hk]
      have := hq k (by omega)
      have e0 := this.c0
      have e1 := this.c1
      have e2 := this.c2
      rw [WideShapes.add_plain] at e0 e1 e2
      exact ⟨e0, e1, e2⟩
    · rw [hlen]
      have : reachBytes = 140737488351232 := rfl
      simp only [List.length_map, List.length_range] at h1
      omega
end Go.Proofs.Yteahenojgcffpaa
