import Derived.Test.YtmjaobddgaglhaaGreatDoorLof
import Derived.Test.YtmjaobddgaglhaaGreatDoorTie
import Derived.Test.YtmjaobddgaglhaaGreatDoorCards
import Derived.Test.YtmjaobddgaglhaaGreatDoorFmn
import Derived.SevenTiedAt
namespace Go.Proofs.YtmjaobddgaglhaaGreatDoor
open Go Go.ChangeShapes Go.WideShapes Go.ChangeAt
set_option maxRecDepth 20000 in
/-- Texts within a struct, within reach. -/
theorem open_list2 {H : Type} {enc : TypeId × Value → H} {W : World} {v : Value} {fuel : Nat} {y : DataW H × List MemPlace} {ts : List TypeId} {ds : List (DataW H)} {j : Nat} (hf : DataW.trod enc Tryz.prog W 0 (fun _ => true) true fuel 22 [v] = some y)
    (ht : ts[j]? = some 22) (hd : ds[j]? = some y.1) (hsz : (DataW.weightsEach Tryz.prog ts ds).all (· ≤ reachBytes) = true) :
    ∃ (a : Option Addr) (l : List Bs) (cap : Nat), v = .slice a l.length cap ∧ Sts W a l.length l ∧ l.length ≤ 8796093022100 ∧ Lns l ∧ l.length ≤ cap ∧ (a = none → cap = 0) := by
  rcases open_strings Tryz.underlying22 Tryz.underlying9 cells9 hf with ⟨hcs, _⟩ | ⟨x, len, c, ss, hcs, _, hl, hm, hss, hx, hel, hmx⟩
  · simp at hcs
    subst hcs
    exact ⟨none, [], 0, rfl, Sts.nil _ _, by simp, (fun j => by simp), by simp, fun _ => rfl⟩
  · simp at hcs
    subst hcs
    simp only [if_true] at hss
    have hd' : y.1 = .slice (strs (ss.take len)) (strs (ss.drop len)) := congrArg Prod.fst hx
    rw [hd'] at hd
    have h1 := sized_slice hsz ht hd Tryz.underlying22
    rw [bytes9] at h1
    have hlen : (ss.take len).length = len := by rw [List.length_take]; omega
    have hl2 : ((ss.take len).map fun s => s.data.toList).length = len := by rw [List.length_map, hlen]
    refine ⟨some x, (ss.take len).map fun s => s.data.toList, c, by rw [hl2], ⟨rfl, fun h0 => ?_⟩, ?_, ?_, by omega, fun e => by cases e⟩
    · rw [hl2] at h0 ⊢
      obtain ⟨b, off, spot⟩ := x
      have hspot : spot = none := by simpa [Addr.add] using World.cell?_spot (hel 0 (by omega))
      subst hspot
      refine ⟨b, off, rfl, fun k hk => ?_⟩
      have e0 := hel k (by omega)
      rw [WideShapes.add_plain] at e0
      rw [e0]
      have hk' : k < ss.length := by omega
      simp [hk, hk']
    · rw [hl2]
      have hr : reachBytes = 140737488351232 := rfl
      simp [strs] at h1
      omega
    · intro k
      by_cases hk : k < len
      · have hk' : k < ss.length := by omega
        have := hmx ss[k] (List.getElem_mem hk')
        unfold maxLen at this
        simpa [hk, hk'] using this
      · rw [List.getD_eq_getElem?_getD, List.getElem?_eq_none (by rw [hl2]; omega)]
        simp
end Go.Proofs.YtmjaobddgaglhaaGreatDoor
namespace Go.Proofs.YtmjaobddgaglhaaGreatDoor.familyBegins
open Go Go.ChangeShapes Go.WideShapes Go.ChangeAt Go.RowKit
open Go.ChangeMaps (open_string shut_string)
set_option linter.unusedVariables false
end Go.Proofs.YtmjaobddgaglhaaGreatDoor.familyBegins
namespace Go.Proofs.YtmjaobddgaglhaaGreatDoor
open Go
end Go.Proofs.YtmjaobddgaglhaaGreatDoor
