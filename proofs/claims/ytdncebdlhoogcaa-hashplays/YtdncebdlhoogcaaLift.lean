import Derived.Test.YtdncebdlhoogcaaRows
import Derived.Test.YtdncebdlhoogcaaSmsa
import Derived.SizedLaws
import Derived.WalkKit
import Derived.ProofKit
import Derived.OpenShut
import Derived.ShutString
namespace Go.Proofs.Ytdncebdlhoogcaa
open Go.ChangeShapes Go.WideShapes Go.ChangeAt Go.RowKit
theorem strings_at {w : World} {a : Addr} {ss : List ByteArray} (h : ∀ i, i < ss.length → w.cell? (a.add i) = some (.string (ss.getD i ByteArray.empty))) (hp : 0 < ss.length) :
    ∃ b off, a = ⟨b, off, none⟩ ∧ ∀ j, j < ss.length → w.cell? ⟨b, off + j, none⟩ = some (.string (ss.getD j ByteArray.empty)) := by
  obtain ⟨b, off, spot⟩ := a
  have hspot : spot = none := by simpa [Addr.add] using World.cell?_spot (h 0 hp)
  subst hspot
  exact ⟨b, off, rfl, fun j hj => by rw [← Go.WideShapes.add_plain]; exact h j hj⟩
theorem weigh_str {H : Type} {P : Program} {e : TypeId} : ∀ {l : List ByteArray} {s : ByteArray}, s ∈ l → s.data.toList.length ∈ DataW.weightsAll P e (strs (H := H) l)
  | x :: l, s, h => by
    rcases List.mem_cons.1 h with rfl | h
    · show _ ∈ DataW.weights P e _ ++ _
      simp [DataW.weights]
    · show _ ∈ DataW.weights P e _ ++ _
      exact List.mem_append.2 (.inr (weigh_str h))
theorem bytes9 : Try.prog.bytesOf 9 = 16 := by kernel_rfl
theorem cells9 : Try.prog.cellsOf 9 = 1 := by kernel_rfl
/-- A list of texts among the arguments: its parts, and how long they can be. -/
theorem open_parts {H : Type} {enc : TypeId × Value → H} {W : World} {a : Option Addr} {len cap : Nat} {d : DataW H} {ps : List MemPlace} {ts : List TypeId} {ds : List (DataW H)} {j : Nat}
    (h : DataW.Trod enc Try.prog W 0 (fun _ => true) true 22 (.slice a len cap) d ps) (ht : ts[j]? = some 22) (hd : ds[j]? = some d) (hsz : (DataW.weightsEach Try.prog ts ds).all (· ≤ reachBytes) = true) :
    ∃ qs : List (List UInt8), len = qs.length ∧ Parts W a qs.length qs ∧ qs.length ≤ 140737488351232 ∧ ∀ k, (qs.getD k []).length ≤ 140737488351232 := by
  obtain ⟨fuel, hf⟩ := h
  rcases open_strings Try.underlying22 Try.underlying9 cells9 hf with ⟨hcs, _⟩ | ⟨x, l, c, ss, hcs, _, hl, hm, hz, hx, hcell, _⟩
  · simp [Value.cells] at hcs
    obtain ⟨rfl, rfl, rfl⟩ := hcs
    exact ⟨[], rfl, ⟨rfl, fun q => by simp at q⟩, by simp, fun k => by simp⟩
  · simp [Value.cells] at hcs
    obtain ⟨rfl, rfl, rfl⟩ := hcs
    simp only [if_true] at hz
    have hd' : d = .slice (strs (ss.take len)) (strs (ss.drop len)) := congrArg Prod.fst hx
    subst hd'
    have h1 := sized_slice hsz ht hd Try.underlying22
    rw [bytes9] at h1
    have hmem : ∀ s ∈ ss.take len, s.data.toList.length ≤ 140737488351232 := by
      intro s hs
      have := List.all_eq_true.1 hsz _ (DataW.weights_mem_each ht hd s.data.toList.length (by
        show _ ∈ DataW.weights Try.prog 22 (.slice _ _)
        simp only [DataW.weights, Try.underlying22]
        exact List.mem_cons_of_mem _ (List.mem_append.2 (.inl (weigh_str hs)))))
      exact of_decide_eq_true this
    have hlen : ((ss.take len).map fun s => s.data.toList).length = len := by simp; omega
    refine ⟨(ss.take len).map fun s => s.data.toList, hlen.symm, ⟨rfl, fun q => ?_⟩, ?_, fun k => ?_⟩
    · rw [hlen] at q ⊢
      obtain ⟨p, o, rfl, hc⟩ := strings_at hcell (by omega)
      refine ⟨p, o, rfl, fun k hk => ?_⟩
      rw [hc k (by omega)]
      have e1 : k < ss.length := by omega
      simp [e1, hk]
    · rw [hlen]
      have : reachBytes = 140737488351232 := rfl
      have h2 : (strs (H := H) (ss.take len)).length = len := by simp [strs]; omega
      omega
    · by_cases hk : k < len
      · have e1 : k < ss.length := by omega
        have := hmem (ss[k]) (List.mem_take_iff_getElem.2 ⟨k, by omega, rfl⟩)
        simpa [e1, hk] using this
      · rw [List.getD_eq_getElem?_getD, List.getElem?_eq_none (by omega)]
        simp
end Go.Proofs.Ytdncebdlhoogcaa
