import Derived.Test.YtllialbdofklgaaGreatDoorZdsa
import Derived.Test.YtllialbdofklgaaGreatDoorNsh
import Derived.OwnWalk
import Derived.RegionTactic
import Derived.BigRegion
namespace Go.Proofs.YtllialbdofklgaaGreatDoor
open Go.RowKit
set_option maxHeartbeats 4000000
set_option maxRecDepth 8000
theorem clone_any (s : Bs) (w : World) (hs : s.length ≤ 281474976710656) : Calls Tryz.prog 54 #[S s] w fun e w' => e = .returned (S s) ∧ Below w.heap.size w w' := by
  have H := hide (Tryz.stringslite_Clone ⟨s.toArray⟩ w (by simpa [ByteArray.size] using hs))
  go_enter Tryz.func54, Tryz.ntmps54
  go_wp2_with fail
  refine (unhide H).mono ?_
  rintro e w1 ⟨rfl, b1⟩
  have HB := hide b1
  clear b1
  go_wp2
  go_ret
  exact ⟨rfl, unhide HB⟩
/-- Texts in memory. -/
def Sts (w : World) (a : Option Addr) (n : Nat) (l : List Bs) : Prop :=
  n = l.length ∧ (0 < n → ∃ p o, a = some ⟨p, o, none⟩ ∧ ∀ j, j < n → w.cell? ⟨p, o + j, none⟩ = some (S (l.getD j [])))
theorem blk_lt {w : World} {p o : Nat} {v : Value} (h : w.cell? ⟨p, o, none⟩ = some v) : p < w.heap.size := block_lt_of_cell h
theorem Sts.at {w : World} {a : Option Addr} {n : Nat} {l : List Bs} (h : Sts w a n l) {j : Nat} (hj : j < n) : ∃ p o, a = some ⟨p, o, none⟩ ∧ p < w.heap.size ∧ w.cell? ⟨p, o + j, none⟩ = some (S (l.getD j [])) := by
  obtain ⟨p, o, e, hc⟩ := h.2 (by omega)
  exact ⟨p, o, e, blk_lt (hc j hj), hc j hj⟩
theorem Sts.below {w w' : World} {a : Option Addr} {n : Nat} {l : List Bs} (h : Sts w a n l) (hb : Below w.heap.size w w') : Sts w' a n l := by
  refine ⟨h.1, fun hn => ?_⟩
  obtain ⟨p, o, e, hc⟩ := h.2 hn
  exact ⟨p, o, e, fun j hj => (hb.cell (by exact blk_lt (hc j hj))).trans (hc j hj)⟩
theorem Sts.of {w : World} {v : Value} {l : List Bs} (h : w.ownsRow 0 9 1 v l.length (l.map S)) : ∃ p cap, v = .slice p l.length cap ∧ Sts w p l.length l ∧ (∀ g o, p = some ⟨g, o, none⟩ → v.ownBlock = some g) := by
  rcases h.2 with ⟨e, q⟩ | ⟨g, cap, cur, e1, e2⟩
  · exact ⟨none, 0, by rw [e, q], ⟨rfl, fun h => by omega⟩, fun g o e => by cases e⟩
  · refine ⟨_, cap, e1, ⟨rfl, fun _ => ⟨g, 0, rfl, fun j hj => ?_⟩⟩, fun g' o e => ?_⟩
    · subst e1
      rw [Nat.zero_add]
      exact owns_cell h j _ (by simp [hj])
    · cases e
      rw [e1]
      rfl
theorem made9 (m : Nat) : (madeCells #[Value.string ⟨#[]⟩] m).toList = List.replicate m (S []) := by
  unfold madeCells
  apply List.ext_getElem
  · simp
  · intro i h1 h2
    simp [Nat.mod_one]
end Go.Proofs.YtllialbdofklgaaGreatDoor
namespace Go.Proofs.YtllialbdofklgaaGreatDoor
open Go.RowKit
set_option maxHeartbeats 4000000
set_option maxRecDepth 8000
theorem setRow_only (w : World) (g : Nat) (cs : Array Value) : Only (fun k => k = g) w (w.setRow g cs) := ⟨rfl, rfl, rfl, by simp [World.setRow], fun k _ hk => setRow_other w g k _ hk⟩
end Go.Proofs.YtllialbdofklgaaGreatDoor
namespace Go.Proofs.YtllialbdofklgaaGreatDoor
open Go.RowKit
set_option maxHeartbeats 4000000
set_option maxRecDepth 8000
/-- Numbers in memory. -/
def Ins (w : World) (a : Option Addr) (n : Nat) (l : List Int) : Prop :=
  n = l.length ∧ (0 < n → ∃ p o, a = some ⟨p, o, none⟩ ∧ ∀ j, j < n → w.cell? ⟨p, o + j, none⟩ = some (I (l.getD j 0)))
theorem Ins.at {w : World} {a : Option Addr} {n : Nat} {l : List Int} (h : Ins w a n l) {j : Nat} (hj : j < n) : ∃ p o, a = some ⟨p, o, none⟩ ∧ p < w.heap.size ∧ w.cell? ⟨p, o + j, none⟩ = some (I (l.getD j 0)) := by
  obtain ⟨p, o, e, hc⟩ := h.2 (by omega)
  exact ⟨p, o, e, blk_lt (hc j hj), hc j hj⟩
theorem Ins.below {w w' : World} {a : Option Addr} {n : Nat} {l : List Int} (h : Ins w a n l) (hb : Below w.heap.size w w') : Ins w' a n l := by
  refine ⟨h.1, fun hn => ?_⟩
  obtain ⟨p, o, e, hc⟩ := h.2 hn
  exact ⟨p, o, e, fun j hj => (hb.cell (by exact blk_lt (hc j hj))).trans (hc j hj)⟩
theorem Ins.of {w : World} {v : Value} {l : List Int} (h : w.ownsRow 0 3 1 v l.length (l.map fun n => I n)) : ∃ p cap, v = .slice p l.length cap ∧ Ins w p l.length l ∧ (∀ g o, p = some ⟨g, o, none⟩ → v.ownBlock = some g) := by
  rcases h.2 with ⟨e, q⟩ | ⟨g, cap, cur, e1, e2⟩
  · exact ⟨none, 0, by rw [e, q], ⟨rfl, fun h => by omega⟩, fun g o e => by cases e⟩
  · refine ⟨_, cap, e1, ⟨rfl, fun _ => ⟨g, 0, rfl, fun j hj => ?_⟩⟩, fun g' o e => ?_⟩
    · subst e1
      rw [Nat.zero_add]
      exact owns_cell h j _ (by simp [hj])
    · cases e
      rw [e1]
      rfl
theorem Ins.nil (w : World) (a : Option Addr) : Ins w a 0 [] := ⟨rfl, fun h => by omega⟩
end Go.Proofs.YtllialbdofklgaaGreatDoor
