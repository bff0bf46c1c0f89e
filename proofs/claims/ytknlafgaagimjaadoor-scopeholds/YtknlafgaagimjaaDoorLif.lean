import Derived.Test.YtknlafgaagimjaaDoorLai
import Derived.Test.YtknlafgaagimjaaDoorScc
import Derived.Deep.Slices
import Derived.SizedLaws
import Derived.SliceStrings
namespace Go.Proofs.YtknlafgaagimjaaDoor
open Go Go.ChangeShapes Go.WideShapes Go.ChangeAt
theorem bytes9 : Tryd.prog.bytesOf 9 = 16 := by kernel_rfl
theorem cells9 : Tryd.prog.cellsOf 9 = 1 := by kernel_rfl
theorem laidOut : laidOutB Tryd.prog = true := by kernel_rfl
set_option maxRecDepth 20000 in
/-- Texts among the arguments. -/
theorem open_list {H : Type} {enc : TypeId × Value → H} {W : World} {a : Option Addr} {len cap : Nat} {d : DataW H} {ps : List MemPlace} {ts : List TypeId} {ds : List (DataW H)} {j : Nat}
    (h : DataW.Trod enc Tryd.prog W 0 (fun _ => true) true 24 (.slice a len cap) d ps) (ht : ts[j]? = some 24) (hd : ds[j]? = some d) (hsz : (DataW.weightsEach Tryd.prog ts ds).all (· ≤ reachBytes) = true) :
    ∃ l : List Bs, len = l.length ∧ Sts W a l.length l ∧ l.length ≤ 140737488351232 ∧ Lns l ∧ len ≤ cap ∧ (a = none → cap = 0) := by
  obtain ⟨fuel, hf⟩ := h
  rcases open_strings Tryd.underlying24 Tryd.underlying9 cells9 hf with ⟨hcs, _⟩ | ⟨x, n, c, ss, hcs, _, hl, hm, hss, hx, hel, hmx⟩
  · simp [Value.cells] at hcs
    obtain ⟨rfl, rfl, rfl⟩ := hcs
    exact ⟨[], rfl, Sts.nil _ _, by simp, fun j => by simp, by omega, fun _ => rfl⟩
  · simp [Value.cells] at hcs
    obtain ⟨rfl, rfl, rfl⟩ := hcs
    simp only [if_true] at hss
    have hd' : d = .slice (strs (ss.take len)) (strs (ss.drop len)) := congrArg Prod.fst hx
    subst hd'
    have h1 := sized_slice hsz ht hd Tryd.underlying24
    rw [bytes9] at h1
    have hlen : (ss.take len).length = len := by rw [List.length_take]; omega
    have hl2 : ((ss.take len).map fun s => s.data.toList).length = len := by rw [List.length_map, hlen]
    refine ⟨(ss.take len).map fun s => s.data.toList, hl2.symm, ⟨rfl, fun h0 => ?_⟩, ?_, ?_, hl, fun e => by cases e⟩
    · rw [hl2] at h0 ⊢
      obtain ⟨b, off, spot⟩ := x
      have hspot : spot = none := by simpa [Addr.add] using World.cell?_spot (hel 0 (by omega))
      subst hspot
      refine ⟨b, off, rfl, fun k hk => ?_⟩
      have e0 := hel k (by omega)
      rw [WideShapes.add_plain] at e0
      rw [e0]
      have hk' : k < ss.length := by omega
      simp [hk, hk']
    · rw [hl2]
      have hr : reachBytes = 140737488351232 := rfl
      simp [strs] at h1
      omega
    · intro k
      by_cases hk : k < len
      · have hk' : k < ss.length := by omega
        have := hmx ss[k] (List.getElem_mem hk')
        unfold maxLen at this
        simpa [hk, hk'] using this
      · rw [List.getD_eq_getElem?_getD, List.getElem?_eq_none (by rw [hl2]; omega)]
        simp
end Go.Proofs.YtknlafgaagimjaaDoor
