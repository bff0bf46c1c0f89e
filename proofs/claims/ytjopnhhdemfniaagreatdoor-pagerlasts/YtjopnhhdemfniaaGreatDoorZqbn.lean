import Derived.Test.YtjopnhhdemfniaaGreatDoorQbl
import Derived.Test.YtjopnhhdemfniaaGreatDoorZqba
import Derived.Test.YtjopnhhdemfniaaGreatDoorZqbi
import Derived.Test.YtjopnhhdemfniaaGreatDoorZpim
/- What stands from step to step of the law. -/
namespace Go.Proofs.YtjopnhhdemfniaaGreatDoor
open Go.RowKit
set_option maxHeartbeats 4000000
variable {m Y P D : Nat} {vl vw vu : Value} {gen root al : Int} {nt : Bs} {Lp : List Pv} {q : Option Addr} {c : Nat} {Lw : List Pw} {v : Value} {last : List Bs} {p : Pr} {W : World}
/-- Rising numbers are few. -/
theorem few_of : ∀ (ps : List Pg) (a : Int) (m : Nat), (∀ x ∈ ps, a ≤ x.number ∧ x.number < m) → ps.Pairwise (fun x y => x.number < y.number) → a ≤ m → (ps.length : Int) ≤ m - a
  | [], _, _, _, _, h => by simp; omega
  | x :: ps, a, m, h, hs, ha => by
    rw [List.pairwise_cons] at hs
    have hx := h x (List.mem_cons_self ..)
    have := few_of ps (x.number + 1) m (fun y hy => ⟨by have := hs.1 y hy; omega, (h y (List.mem_cons_of_mem _ hy)).2⟩) hs.2 (by omega)
    simp only [List.length_cons]
    omega
theorem sps_lnk {W : World} {q : Option Addr} {L : List Pv} (h : Sps W q L) : ∀ x ∈ L, Lnk W x := by
  intro x hx
  obtain ⟨j, hj, rfl⟩ := List.getElem_of_mem hx
  obtain ⟨g, o, e, hc⟩ := h.1 (by omega)
  obtain ⟨g2, o2, q2, c2, e2, _, _, _, _, d3, _, hi⟩ := h.2.at hj
  rw [e] at e2
  cases e2
  have e0 : (L.map (·.1)).getD j noPg = L[j].1 := by simp [hj]
  have := hc (j * 5 + 3) L[j].2 (by rw [pvs_get L j 3 hj (by omega)]; rfl)
  rw [← Nat.add_assoc] at this
  rw [this] at d3
  rw [e0] at d3 hi
  exact ⟨q2, c2, Option.some.inj d3, hi⟩
end Go.Proofs.YtjopnhhdemfniaaGreatDoor
/- A commit of the law's: what stands behind it. -/
namespace Go.Proofs.YtjopnhhdemfniaaGreatDoor
open Go.RowKit
set_option maxHeartbeats 4000000
variable {m Y P D : Nat} {vl vw vu : Value} {gen root al : Int} {nt : Bs} {Lp : List Pv} {q : Option Addr} {c : Nat} {Lw : List Pw} {v : Value} {last : List Bs} {p : Pr} {W : World}
/-- What lies in a row from here on is not touched. -/
theorem ln_only {F : Nat → Prop} {w w' : World} {x : Pv} (o : Only F w w') (h : (x.2 = nlv ∧ x.1.links = []) ∨ (w.ownsRow 0 3 1 x.2 x.1.links.length (x.1.links.map fun z => I z) ∧ ∀ k, x.2.ownBlock = some k → ¬ F k)) : Lnk w' x := by
  rcases h with ⟨e1, e2⟩ | ⟨r, hn⟩
  · exact ⟨none, 0, by rw [e1, e2]; rfl, by rw [e2]; exact ⟨rfl, fun h => absurd h (Nat.lt_irrefl _)⟩⟩
  · obtain ⟨q, c, e⟩ := owns_form r
    have r' := owns_only r o hn
    rw [e] at r'
    exact ⟨q, c, e, ins_of r'⟩
theorem cmr_fresh {d d' : Ds} {p p' : Pr} {l : List Pg} {root : Int} {note : Bs} {gone : List Int} (h : cmr d p l root note gone = (0, d', p')) : l.all Pg.fresh = true := by
  rw [cmr_eq] at h
  split at h
  · exact absurd (congrArg Prod.fst h) (by simp)
  · split at h
    · exact absurd (congrArg Prod.fst h) (by simp)
    · rename_i _ q
      cases e : l.all Pg.fresh with
      | true => rfl
      | false => rw [e] at q; exact absurd rfl q
end Go.Proofs.YtjopnhhdemfniaaGreatDoor
