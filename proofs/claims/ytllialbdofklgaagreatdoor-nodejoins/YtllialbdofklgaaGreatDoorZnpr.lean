import Derived.Test.YtllialbdofklgaaGreatDoorNpl
import Derived.Test.YtllialbdofklgaaGreatDoorNon
import Derived.Test.YtllialbdofklgaaGreatDoorZnok
import Derived.Test.YtllialbdofklgaaGreatDoorNfd
import Derived.Test.YtllialbdofklgaaGreatDoorZndn
import Derived.Test.YtllialbdofklgaaGreatDoorZndg
namespace Go.Proofs.YtllialbdofklgaaGreatDoor
open Go.RowKit
set_option maxHeartbeats 16000000
set_option maxRecDepth 8000
def zro : Nd := ⟨false, [], [], []⟩
theorem Rws.zro (B : Nat) (w : World) : Rws B Go.Proofs.YtllialbdofklgaaGreatDoor.zro (.slice none 0 0) (.slice none 0 0) (.slice none 0 0) w :=
  ⟨owns_nil _ _ _, owns_nil _ _ _, owns_nil _ _ _, (fun _ q => nomatch q), (fun _ q => nomatch q), (fun _ q => nomatch q)⟩
theorem dsj_nil (v : Value) : dsj (.slice none 0 0) v := fun _ q => nomatch q
theorem sam_self (n : Nd) : sam n n = true := by simp [sam]
end Go.Proofs.YtllialbdofklgaaGreatDoor
namespace Go.Proofs.YtllialbdofklgaaGreatDoor
open Go.RowKit
/-- May a node be put together with another? -/
def mj (n : Nd) : Bool := fmr n true && decide (n.siz ≤ 480)
theorem mj_prog (n : Nd) : (agv n && (n.leaf || decide (0 < n.keys.length))) = fmr n true := by
  unfold fmr hfv agv
  cases n.leaf
  · simp [Bool.and_comm]
  · simp
/-- Do two nodes go together? -/
def gtv (m : Nd) (key : Bs) (n : Nd) : Bool := (m.leaf == n.leaf) && (decide (m.keys.length = 0) || decide (m.keys.getD (m.keys.length - 1) [] < key)) && (if m.leaf then (decide (n.keys.length = 0) || !decide (n.keys.getD 0 [] < key)) else decide (key < n.keys.getD 0 []) && unl (m.kids ++ n.kids))
/-- What comes of two nodes. -/
def jn (m : Nd) (key : Bs) (n : Nd) : Nd := ⟨m.leaf, m.keys ++ (if m.leaf then [] else [key]) ++ n.keys, m.vals ++ n.vals, m.kids ++ n.kids⟩
def jer (m : Nd) (key : Bs) (n : Nd) : Nat := if (mj m && mj n) = false then 100 else if (kok m.keys && kok n.keys && !noKey key) = false then 101 else if gtv m key n = false then 103 else if 718 < (jn m key n).siz then 102 else 0
def jrs (m : Nd) (key : Bs) (n : Nd) : Nd := if jer m key n = 0 then jn m key n else zro
end Go.Proofs.YtllialbdofklgaaGreatDoor
