import Derived.Test.YthlacailhfhjnaaGreatDoorWhh
import Derived.Test.YthlacailhfhjnaaGreatDoorZwhc
import Derived.Test.YthlacailhfhjnaaGreatDoorZwfj
import Derived.Test.YthlacailhfhjnaaGreatDoorRgs
import Derived.Test.YthlacailhfhjnaaGreatDoorZdetl
import Derived.Test.YthlacailhfhjnaaGreatDoorZwbd
import Derived.Test.YthlacailhfhjnaaGreatDoorZwdd
import Derived.Test.YthlacailhfhjnaaGreatDoorZwde
import Derived.Test.YthlacailhfhjnaaGreatDoorWcp
import Derived.Deep.CutRange
import Derived.Test.YthlacailhfhjnaaGreatDoorZwdr
import Derived.Laws.Tables
namespace Go.Proofs.YthlacailhfhjnaaGreatDoor
open Go.RowKit Go.Lib
/-- A line more. -/
theorem sc_line (op : Bs → Option Fst) (p : Ps) (t : Bs) (hp : p.st ≤ 1) (h0 : p.ln = []) (hb : p.bd = []) (J : Ps × Nat) (hJ : J = judge op { p with rd := p.rd + (hd 10 t).length + 1, ln := [] } (hd 10 t)) :
    sc op p t = if 1001 < (hd 10 t).length then some (.error 53) else if (hd 10 t).length < t.length then (if J.2 ≠ 0 then some (.error J.2) else nxl J.1 (tl 10 t) (sc op J.1 (tl 10 t))) else none := by
  rw [sc_rdl op (t.length + 1) p t hp h0 hb (by omega)]
  unfold rdl
  rw [← hJ]
  split
  · rfl
  · split
    · rename_i h1 h2
      split
      · rfl
      · rename_i h3
        have h3' : J.2 = 0 := by simpa using h3
        rw [hJ] at h3'
        obtain ⟨j1, j2, j3, j4⟩ := jdg_ok op { p with rd := p.rd + (hd 10 t).length + 1, ln := [] } (hd 10 t) (by exact hp) h3'
        rw [← hJ] at j1 j2 j3 j4
        unfold nxl
        by_cases q3 : J.1.st = 3
        · rw [if_pos q3, if_pos q3]
        · rw [if_neg q3, if_neg q3]
          by_cases q2 : J.1.st = 2
          · rw [if_pos q2, if_pos q2]
          · rw [if_neg q2, if_neg q2]
            have hlen : (tl 10 t).length < t.length := by
              rcases (hd_split 10 t).2 with ⟨_, e⟩ | ⟨e, _⟩
              · have := congrArg List.length e
                simp at this
                omega
              · omega
            exact (sc_rdl op t.length J.1 _ (by omega) j1 (by rw [j2]; exact hb) hlen).symm
    · rfl
def gz (e : Int) : Array Value := gcs [] [] 0 (.slice none 0 0) [] 0 false e
/-- What is answered. -/
def RdR (o : Rs) (s : Bs) (w : World) (r : Ending) (w' : World) : Prop := match o with
  | none => r = .returned (.agg (gz 0))
  | some (.error e) => r = .returned (.agg (gz (e : Nat)))
  | some (.ok (q, t)) => ∃ hv, r = .returned (.agg (gcs q.fs.m q.fs.p (q.fs.s : Nat) hv q.bd (q.rd : Nat) true 0)) ∧ w'.ownsRow 0 35 2 hv q.hs.length (cellsF q.hs) ∧ (∀ k, hv.ownBlock = some k → w.heap.size ≤ k) ∧ t = s.drop q.rd
/-- Both boxes while it is read. -/
structure RdS (w : World) (P4 P5 : Nat) (f : Fst) (hs : List Fl) (hv : Value) (wr : World) : Prop where
  x4 : wr.heap[P4]? = some (.cells (gz 0) 93 (0, 0))
  x5 : wr.heap[P5]? = some (.cells (gcs f.m f.p (f.s : Nat) hv [] 0 false 0) 93 (0, 0))
  row : wr.ownsRow 0 35 2 hv hs.length (cellsF hs)
  new : ∀ k, hv.ownBlock = some k → w.heap.size ≤ k
  ge : w.heap.size ≤ P4 ∧ w.heap.size ≤ P5 ∧ P4 ≠ P5
  bel : Below w.heap.size w wr
section
variable {w wr w' : World} {P4 P5 : Nat} {f : Fst} {hs : List Fl} {hv : Value}
theorem RdS.below (h : RdS w P4 P5 f hs hv wr) (hb : Below wr.heap.size wr w') : RdS w P4 P5 f hs hv w' :=
  ⟨(hb.block _ (lt_of_row h.x4)).trans h.x4, (hb.block _ (lt_of_row h.x5)).trans h.x5, owns_same h.row (fun j hj => by
    obtain ⟨cs, q⟩ := owns_lt h.row j hj
    exact hb.block j (lt_of_row q)), h.new, h.ge, h.bel.trans (hb.mono h.bel.size)⟩
/-- The answer laid into its box. -/
theorem RdS.done (h : RdS w P4 P5 f hs hv wr) (cs : Array Value) : (wr.setRow P4 cs).heap[P4]? = some (.cells cs 93 (0, 0)) ∧ Below w.heap.size w (wr.setRow P4 cs) ∧ (wr.setRow P4 cs).ownsRow 0 35 2 hv hs.length (cellsF hs) := by
  refine ⟨setRow_heap wr P4 _ _ 93 _ h.x4, h.bel.trans ⟨rfl, rfl, rfl, by simp [World.setRow], fun k hk => setRow_other wr P4 k cs (by have := h.ge.1; omega)⟩, owns_same h.row (fun k hk => setRow_other wr P4 k cs (own_ne h.x4 h.row (by decide) k hk))⟩
end
theorem info93 : (Tryz.prog.info? 93).map (·.size) = some 8 := by kernel_rfl
end Go.Proofs.YthlacailhfhjnaaGreatDoor
