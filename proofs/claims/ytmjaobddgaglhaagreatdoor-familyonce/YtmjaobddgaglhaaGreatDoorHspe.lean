/- What the program's hash package works out, as plain functions on UInt32 and bytes. Nothing of the dump. -/
namespace Go.Proofs.YtmjaobddgaglhaaGreatDoor
namespace Sha
def xr (a b : UInt32) : UInt32 := a ^^^ b
def an (a b : UInt32) : UInt32 := a &&& b
def oo (a b : UInt32) : UInt32 := a ||| b
def nt (a : UInt32) : UInt32 := ~~~ a
def ad (a b : UInt32) : UInt32 := a + b
def lf (a : UInt32) (n : Nat) : UInt32 := a <<< UInt32.ofNat n
def rtK (a : UInt32) (n : Nat) : UInt32 := a >>> UInt32.ofNat n
def rr (x : UInt32) (n : Nat) : UInt32 := oo (lf x (32 - n)) (rtK x n)
def ub (c : UInt8) : UInt32 := c.toUInt32
def be (b : List UInt8) (t : Nat) : UInt32 :=
  oo (oo (oo (lf (ub (b.getD (4 * t) 0)) 24) (lf (ub (b.getD (4 * t + 1) 0)) 16)) (lf (ub (b.getD (4 * t + 2) 0)) 8)) (ub (b.getD (4 * t + 3) 0))
def nx (w : List UInt32) (t : Nat) : UInt32 :=
  ad (ad (ad (w.getD (t - 16) 0) (xr (xr (rr (w.getD (t - 15) 0) 7) (rr (w.getD (t - 15) 0) 18)) (rtK (w.getD (t - 15) 0) 3))) (w.getD (t - 7) 0))
    (xr (xr (rr (w.getD (t - 2) 0) 17) (rr (w.getD (t - 2) 0) 19)) (rtK (w.getD (t - 2) 0) 10))
def w1 (b : List UInt8) : Nat → List UInt32
  | 0 => List.replicate 64 0
  | k + 1 => (w1 b k).set k (be b k)
def w2 (b : List UInt8) : Nat → List UInt32
  | 0 => w1 b 16
  | k + 1 => (w2 b k).set (16 + k) (nx (w2 b k) (16 + k))
def ws (b : List UInt8) : List UInt32 := w2 b 48
def ks : List UInt32 := [
    0x428a2f98, 0x71374491, 0xb5c0fbcf, 0xe9b5dba5, 0x3956c25b, 0x59f111f1, 0x923f82a4, 0xab1c5ed5,
    0xd807aa98, 0x12835b01, 0x243185be, 0x550c7dc3, 0x72be5d74, 0x80deb1fe, 0x9bdc06a7, 0xc19bf174,
    0xe49b69c1, 0xefbe4786, 0x0fc19dc6, 0x240ca1cc, 0x2de92c6f, 0x4a7484aa, 0x5cb0a9dc, 0x76f988da,
    0x983e5152, 0xa831c66d, 0xb00327c8, 0xbf597fc7, 0xc6e00bf3, 0xd5a79147, 0x06ca6351, 0x14292967,
    0x27b70a85, 0x2e1b2138, 0x4d2c6dfc, 0x53380d13, 0x650a7354, 0x766a0abb, 0x81c2c92e, 0x92722c85,
    0xa2bfe8a1, 0xa81a664b, 0xc24b8b70, 0xc76c51a3, 0xd192e819, 0xd6990624, 0xf40e3585, 0x106aa070,
    0x19a4c116, 0x1e376c08, 0x2748774c, 0x34b0bcb5, 0x391c0cb3, 0x4ed8aa4a, 0x5b9cca4f, 0x682e6ff3,
    0x748f82ee, 0x78a5636f, 0x84c87814, 0x8cc70208, 0x90befffa, 0xa4506ceb, 0xbef9a3f7, 0xc67178f2]
structure St where
  a : UInt32
  b : UInt32
  c : UInt32
  d : UInt32
  e : UInt32
  f : UInt32
  g : UInt32
  h : UInt32
def x1 (v : St) (k w : UInt32) : UInt32 :=
  ad (ad (ad (ad v.h (xr (xr (rr v.e 6) (rr v.e 11)) (rr v.e 25))) (xr (an v.e v.f) (an (nt v.e) v.g))) k) w
def y1 (v : St) : UInt32 :=
  ad (xr (xr (rr v.a 2) (rr v.a 13)) (rr v.a 22)) (xr (xr (an v.a v.b) (an v.a v.c)) (an v.b v.c))
def rnd (v : St) (k w : UInt32) : St := ⟨ad (x1 v k w) (y1 v), v.a, v.b, v.c, ad v.d (x1 v k w), v.e, v.f, v.g⟩
def rn (w : List UInt32) (s : St) : Nat → St
  | 0 => s
  | t + 1 => rnd (rn w s t) (ks.getD t 0) (w.getD t 0)
def St.l (s : St) : List UInt32 := [s.a, s.b, s.c, s.d, s.e, s.f, s.g, s.h]
def sm (s v : St) : St := ⟨ad s.a v.a, ad s.b v.b, ad s.c v.c, ad s.d v.d, ad s.e v.e, ad s.f v.f, ad s.g v.g, ad s.h v.h⟩
def mx (s : St) (b : List UInt8) : St := sm s (rn (ws b) s 64)
def s0 : St := ⟨0x6a09e667, 0xbb67ae85, 0x3c6ef372, 0xa54ff53a, 0x510e527f, 0x9b05688c, 0x1f83d9ab, 0x5be0cd19⟩
theorem w1_len (b : List UInt8) (k : Nat) : (w1 b k).length = 64 := by
  induction k with
  | zero => simp [w1]
  | succ k ih => simp [w1, ih]
theorem w2_len (b : List UInt8) (k : Nat) : (w2 b k).length = 64 := by
  induction k with
  | zero => exact w1_len b 16
  | succ k ih => simp [w2, ih]
/-- What a hasher has taken: the state, the tail, how much. -/
structure Ha where
  s : St
  t : List UInt8
  n : Nat
def put (h : Ha) (c : UInt8) : Ha :=
  if (h.n + 1) % 64 = 0 then ⟨mx h.s (h.t.set (h.n % 64) c), h.t.set (h.n % 64) c, h.n + 1⟩ else ⟨h.s, h.t.set (h.n % 64) c, h.n + 1⟩
def h0 : Ha := ⟨s0, List.replicate 64 0, 0⟩
def took (h : Ha) (l : List UInt8) : Ha := l.foldl put h
def nb (n : Nat) (size : Nat) : List UInt8 := (List.range size).map fun i => UInt8.ofNat (n / 2 ^ (8 * (size - 1 - i)))
def fil (n : Nat) : List UInt8 := (128 : UInt8) :: (List.replicate ((119 - n % 64) % 64) 0 ++ nb (8 * n) 8)
def dig (s : St) : List UInt8 := (s.l.map fun x => nb x.toNat 4).flatten
def sumH (h : Ha) : List UInt8 := dig (took h (fil h.n)).s
def sum (l : List UInt8) : List UInt8 := sumH (took h0 l)
def msk (key : List UInt8) (m : UInt8) : List UInt8 := (List.range 64).map fun i => (key.getD i 0) ^^^ m
def mac (key l : List UInt8) : List UInt8 :=
  let k := if 64 < key.length then sum key else key
  sum (msk k 92 ++ sum (msk k 54 ++ l))
end Sha
end Go.Proofs.YtmjaobddgaglhaaGreatDoor
