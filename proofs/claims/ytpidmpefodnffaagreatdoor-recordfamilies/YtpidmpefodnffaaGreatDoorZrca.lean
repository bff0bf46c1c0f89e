import Derived.Test.YtpidmpefodnffaaGreatDoorRbd
import Derived.Test.YtpidmpefodnffaaGreatDoorZrbb
import Derived.Test.YtpidmpefodnffaaGreatDoorPra
import Derived.Test.YtpidmpefodnffaaGreatDoorZfde
namespace Go.Proofs.YtpidmpefodnffaaGreatDoor
open Go.RowKit Go.Lib
set_option maxHeartbeats 4000000
set_option maxRecDepth 8000
theorem short_any (s : Bs) (w : World) (hs : s.length ≤ 255) : Calls Tryz.prog 64 #[S s] w fun e w' => e = .returned (S (be 1 s.length ++ s)) ∧ Below w.heap.size w w' := by
  have H1 := hide (by_any 1 s.length w (by decide) (by decide) (by omega))
  have hbl := be_len 1 s.length
  generalize be 1 s.length = x at *
  go_enter Tryz.func64, Tryz.ntmps64
  go_wp2_with fail
  refine (unhide H1).mono ?_
  rintro e w1 ⟨rfl, b1⟩
  have HB := hide b1
  clear b1
  go_wp2
  go_ret
  exact ⟨congrArg (fun v => Ending.returned (Value.string v)) (by rw [ba_app]), unhide HB⟩
end Go.Proofs.YtpidmpefodnffaaGreatDoor
namespace Go.Proofs.YtpidmpefodnffaaGreatDoor
open Go.RowKit Go.Lib
set_option maxHeartbeats 4000000
set_option maxRecDepth 8000
theorem right_nm (s : Bs) : right [s] = nm s := by
  have e : tx [s] = s := by simp [tx, tl]
  unfold right wr many
  rw [e]
  cases h : nm s
  · simp [h, up]
  · have : s.length ≤ 16 := by simp [nm] at h; exact h.1.2
    simp [h, up]
    omega
end Go.Proofs.YtpidmpefodnffaaGreatDoor
namespace Go.Proofs.YtpidmpefodnffaaGreatDoor
open Go.RowKit Go.Lib
set_option maxHeartbeats 4000000
set_option maxRecDepth 8000
/-- What holds between two operations of a drawn region that reads a box X and leaves a box R as it is. -/
structure Rj (w : World) (X : Nat) (cx : Array Value) (tx : TypeId) (R : Nat) (cr : Array Value) (tr : TypeId) (_c : Unit) (_L : Nat → Bool) (W : World) : Prop where
  bel : Below w.heap.size w W
  rx : W.heap[X]? = some (.cells cx tx (0, 0))
  rr : W.heap[R]? = some (.cells cr tr (0, 0))
theorem Rj.any {w : World} {X : Nat} {cx : Array Value} {tx : TypeId} {R : Nat} {cr : Array Value} {tr : TypeId} {c : Unit} {L : Nat → Bool} {W : World} (h : Rj w X cx tx R cr tr c L W) (L' : Nat → Bool) : Rj w X cx tx R cr tr c L' W := ⟨h.bel, h.rx, h.rr⟩
theorem Rj.call {w : World} {X : Nat} {cx : Array Value} {tx : TypeId} {R : Nat} {cr : Array Value} {tr : TypeId} {c : Unit} {L : Nat → Bool} {W : World} (h : Rj w X cx tx R cr tr c L W) (L' : Nat → Bool) {W' : World} (hb : Below W.heap.size W W') : Rj w X cx tx R cr tr c L' W' :=
  ⟨h.bel.trans (hb.mono h.bel.size), (hb.block _ (lt_of_row h.rx)).trans h.rx, (hb.block _ (lt_of_row h.rr)).trans h.rr⟩
theorem Rj.cell {w : World} {X : Nat} {cx : Array Value} {tx : TypeId} {R : Nat} {cr : Array Value} {tr : TypeId} {c : Unit} {L : Nat → Bool} {W : World} (h : Rj w X cx tx R cr tr c L W) {j : Nat} {v : Value} (hv : cx[j]? = some v) : W.cell? ⟨X, j, none⟩ = some v := cellr h.rx hv
end Go.Proofs.YtpidmpefodnffaaGreatDoor
