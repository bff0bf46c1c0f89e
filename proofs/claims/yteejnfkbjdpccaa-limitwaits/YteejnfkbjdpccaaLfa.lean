import Derived.Test.YteejnfkbjdpccaaRows
import Derived.Test.YteejnfkbjdpccaaLcc
import Derived.SizedLaws
import Derived.WalkKit
import Derived.ProofKit
import Derived.OpenShut
import Derived.ShutString
import Derived.Deep.Slices
namespace Go.Proofs.Yteejnfkbjdpccaa
open Go Go.ChangeShapes Go.WideShapes Go.ChangeAt
theorem bytes3 : Try.prog.bytesOf 3 = 8 := by kernel_rfl
theorem bytes50 : Try.prog.bytesOf 50 = 32 := by kernel_rfl
theorem cells3 : Try.prog.cellsOf 3 = 1 := by kernel_rfl
theorem cells50 : Try.prog.cellsOf 50 = 4 := by kernel_rfl
theorem i64_of {n : Int} (h : (Lit.int .i64 n).wf = true) : i64 n := by
  simp [Lit.wf, IntKind.min, IntKind.max, IntKind.signed, IntKind.bits] at h
  constructor <;> omega
theorem getD_at {α : Type} (f : Nat → α) (d : α) (n k : Nat) (h : k < n) : ((List.range n).map f).getD k d = f k := by simp [h]
/-- What stands in the four cells. -/
structure AsAt (W : World) (a : Addr) (i : Nat) (q : As) : Prop where
  c0 : W.cell? (a.add (i * 4)) = some (I q.w)
  c1 : W.cell? (a.add (i * 4 + 1)) = some (I q.c)
  c2 : W.cell? (a.add (i * 4 + 2)) = some (I q.p)
  c3 : W.cell? (a.add (i * 4 + 3)) = some (I q.l)
  wf : q.wf
set_option maxRecDepth 20000 in
/-- Those who ask, among the arguments. -/
theorem open_asks {H : Type} {enc : TypeId × Value → H} {W : World} {a : Option Addr} {len cap : Nat} {d : DataW H} {ps : List MemPlace} {ts : List TypeId} {ds : List (DataW H)} {j : Nat}
    (h : DataW.Trod enc Try.prog W 0 (fun _ => true) true 47 (.slice a len cap) d ps) (ht : ts[j]? = some 47) (hd : ds[j]? = some d) (hsz : (DataW.weightsEach Try.prog ts ds).all (· ≤ reachBytes) = true) :
    ∃ qs : List As, len = qs.length ∧ Aks W a qs.length qs ∧ qs.length ≤ 140737488351232 := by
  obtain ⟨fuel, hf⟩ := h
  rcases Go.Deep.open_slice Try.underlying47 hf with ⟨hcs, _⟩ | ⟨x, l, c, m, n, D, Pl, hcs, _, hl, hm, hmm, hx, hel⟩
  · simp [Value.cells] at hcs
    obtain ⟨rfl, rfl, rfl⟩ := hcs
    exact ⟨[], rfl, ⟨rfl, fun q hq => (by cases hq), fun q => by simp at q⟩, by simp⟩
  · simp [Value.cells] at hcs
    obtain ⟨rfl, rfl, rfl⟩ := hcs
    simp only [if_true] at hmm
    subst hmm
    have hd' : d = .slice ((List.range len).map D) ((List.range (m - len)).map fun j => D (len + j)) := congrArg Prod.fst hx
    subst hd'
    have h1 := sized_slice hsz ht hd Try.underlying47
    rw [bytes50] at h1
    have each : ∀ i, i < m → ∃ q : As, AsAt W x i q := by
      intro i hi
      obtain ⟨cs', h1, h2⟩ := hel i hi
      rw [cells50] at h1
      obtain ⟨_, hlen, hcell⟩ := World.cells?_some h1
      obtain ⟨xs, k, hk, hxy, _, hxl, hf⟩ := DataW.trod_struct Try.underlying50 h2
      match xs, hxl, cs', hlen with
      | [y0, y1, y2, y3], _, [v0, v1, v2, v3], _ =>
        have g0 := hf 0 _ rfl
        have g1 := hf 1 _ rfl
        have g2 := hf 2 _ rfl
        have g3 := hf 3 _ rfl
        simp [cells3] at g0 g1 g2 g3
        have e0 := hcell 0 (by omega)
        have e1 := hcell 1 (by omega)
        have e2 := hcell 2 (by omega)
        have e3 := hcell 3 (by omega)
        rw [Go.Deep.add_add] at e0 e1 e2 e3
        obtain ⟨z0, ez0, rfl, f0⟩ := DataW.trod_int Try.underlying3 g0
        obtain ⟨z1, ez1, rfl, f1⟩ := DataW.trod_int Try.underlying3 g1
        obtain ⟨z2, ez2, rfl, f2⟩ := DataW.trod_int Try.underlying3 g2
        obtain ⟨z3, ez3, rfl, f3⟩ := DataW.trod_int Try.underlying3 g3
        simp only [List.cons.injEq, and_true] at ez0 ez1 ez2 ez3
        subst ez0 ez1 ez2 ez3
        exact ⟨⟨z0, z1, z2, z3⟩, by simpa using e0, by simpa using e1, by simpa using e2, by simpa using e3, i64_of f0, i64_of f1, i64_of f2, i64_of f3⟩
    have : Inhabited As := ⟨as0⟩
    obtain ⟨q, hq⟩ := Go.Deep.choose_lt each
    have hlen : ((List.range len).map q).length = len := by simp
    refine ⟨(List.range len).map q, hlen.symm, ⟨rfl, fun y hy => ?_, fun h0 => ?_⟩, ?_⟩
    · obtain ⟨i, hi, rfl⟩ := List.mem_map.1 hy
      rw [List.mem_range] at hi
      exact (hq i (by omega)).wf
    · rw [hlen] at h0 ⊢
      obtain ⟨b, off, spot⟩ := x
      have hspot : spot = none := by simpa [Addr.add] using World.cell?_spot (hq 0 (by omega)).c0
      subst hspot
      refine ⟨b, off, rfl, fun k hk => ?_⟩
      rw [getD_at q as0 len k hk]
      have := hq k (by omega)
      have e0 := this.c0
      have e1 := this.c1
      have e2 := this.c2
      have e3 := this.c3
      rw [WideShapes.add_plain] at e0 e1 e2 e3
      exact ⟨e0, e1, e2, e3⟩
    · rw [hlen]
      have : reachBytes = 140737488351232 := rfl
      simp only [List.length_map, List.length_range] at h1
      omega
end Go.Proofs.Yteejnfkbjdpccaa
