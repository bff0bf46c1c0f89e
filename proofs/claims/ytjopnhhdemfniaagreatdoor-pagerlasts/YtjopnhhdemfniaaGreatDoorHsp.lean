/- What the program's hash package works out, as plain functions on UInt32 and bytes. Nothing of the dump. -/
namespace Go.Proofs.YtjopnhhdemfniaaGreatDoor
namespace Sha
def xr (a b : UInt32) : UInt32 := a ^^^ b
def an (a b : UInt32) : UInt32 := a &&& b
def oo (a b : UInt32) : UInt32 := a ||| b
def nt (a : UInt32) : UInt32 := ~~~ a
def ad (a b : UInt32) : UInt32 := a + b
def lf (a : UInt32) (n : Nat) : UInt32 := a <<< UInt32.ofNat n
def rt (a : UInt32) (n : Nat) : UInt32 := a >>> UInt32.ofNat n
def rr (x : UInt32) (n : Nat) : UInt32 := oo (lf x (32 - n)) (rt x n)
def ub (c : UInt8) : UInt32 := c.toUInt32
end Sha
end Go.Proofs.YtjopnhhdemfniaaGreatDoor
