import Derived.Test.YtpelmacblglhoaaDst
import Derived.Test.YtpelmacblglhoaaDsw
namespace Go.Proofs.Ytpelmacblglhoaa
open Go.RowKit
set_option maxHeartbeats 4000000
set_option maxRecDepth 8000
theorem Ok.new {l : List Bs} (h : mayv l.length = true) (ha : allR l = true) : Ok (Ds.new l) := by
  obtain ⟨m1, m2⟩ : (8 : Int) ≤ (l.length : Int) ∧ (l.length : Int) ≤ 4096 := by simpa [mayv] using h
  refine ⟨fun i j h1 h2 => by simp [Ds.new] at h2, fun x hx => by simp [Ds.new] at hx, fun x hx => ?_, ⟨by show 8 ≤ l.length; omega, by show l.length ≤ 4096; omega⟩, ⟨by show (0 : Int) ≤ 0; omega, by show (0 : Int) ≤ _; omega⟩⟩
  have := List.all_eq_true.1 ha x hx
  simpa using this
theorem Ok.zs {n : Nat} (h : mayv n = true) : Ok (Ds.new (List.replicate n zs)) := Ok.new (by simpa using h) (allR_zs n)
def kd1 (bk : Bs) : Ds := { ws := [(2, bk)], last := List.replicate 8 zs, fuse := 0, dead := false, acts := 1 }
def kd2 (bk : Bs) : Ds := { ws := [], last := (List.replicate 8 zs).set 2 (tornv zs bk 2), fuse := 0, dead := false, acts := 1 }
theorem kw1 (bk : Bs) (hb : bk.length = 512) : writev (Ds.new (List.replicate 8 zs)) 2 bk = 0 ∧ (Ds.new (List.replicate 8 zs)).write 2 bk = kd1 bk := by
  have h1 : reachv (Ds.new (List.replicate 8 zs)) 2 = 0 := by simp [reachv, Ds.new]
  have h2 : actv (Ds.new (List.replicate 8 zs)) = 0 := by simp [actv, Ds.new]
  constructor
  · unfold writev
    rw [if_neg (by simpa using hb), if_neg (by simpa using h1), h2]
  · unfold Ds.write
    rw [if_neg (by simpa using hb), if_neg (by simpa using h1), if_neg (by simpa using h2)]
    simp [Ds.act, Ds.new, Ds.put, putW, kd1]
    decide
theorem kok1 (bk : Bs) (hb : bk.length = 512) : Ok (kd1 bk) := by
  have := (Ok.zs (n := 8) (by decide)).write 2 bk
  rwa [(kw1 bk hb).2] at this
theorem kr1 (bk : Bs) : readS (kd1 bk) 2 = bk ∧ reachv (kd1 bk) 2 = 0 := by
  have h1 : reachv (kd1 bk) 2 = 0 := by simp [reachv, kd1]
  refine ⟨?_, h1⟩
  unfold readS
  rw [if_pos h1]
  simp [cur, kd1, fnd]
theorem kst (bk : Bs) : stps (List.replicate (kd1 bk).ws.length none) [((0 : Int), (2 : Int))] = some [some 2] := by
  show stps (List.replicate 1 none) [((0 : Int), (2 : Int))] = some [some 2]
  decide
theorem kc1 (bk : Bs) : crashv (kd1 bk) [((0 : Int), (2 : Int))] = 0 ∧ (kd1 bk).crash [((0 : Int), (2 : Int))] = kd2 bk := by
  constructor
  · unfold crashv
    rw [kst]
    rfl
  · unfold Ds.crash
    rw [kst]
    simp only
    show (_ : Ds) = kd2 bk
    unfold kd2 kd1 crs crs
    simp
theorem sect_zs (s : Nat) (h : s < 8) : sect s zs = List.replicate 64 0 := by
  unfold sect zs
  rw [List.drop_replicate, List.take_replicate]
  congr 1
  omega
theorem torn_known (bk : Bs) : tornv zs bk 2 = (List.replicate 64 0 ++ (bk.drop 64).take (128 - 64)) ++ List.replicate 384 0 := by
  have e : List.range 8 = [0, 1, 2, 3, 4, 5, 6, 7] := by rfl
  unfold tornv tornK
  rw [e]
  have i0 : inSet 2 0 = false := by decide
  have i1 : inSet 2 1 = true := by decide
  have i2 : inSet 2 2 = false := by decide
  have i3 : inSet 2 3 = false := by decide
  have i4 : inSet 2 4 = false := by decide
  have i5 : inSet 2 5 = false := by decide
  have i6 : inSet 2 6 = false := by decide
  have i7 : inSet 2 7 = false := by decide
  simp only [List.flatMap_cons, List.flatMap_nil, i0, i1, i2, i3, i4, i5, i6, i7, if_true, Bool.false_eq_true, if_false, List.append_nil]
  rw [sect_zs 0 (by omega), sect_zs 2 (by omega), sect_zs 3 (by omega), sect_zs 4 (by omega), sect_zs 5 (by omega), sect_zs 6 (by omega), sect_zs 7 (by omega)]
  rw [List.append_assoc]
  congr 1
theorem kok2 (bk : Bs) (hb : bk.length = 512) : Ok (kd2 bk) := by
  refine ⟨fun i j h1 h2 => by simp [kd2] at h2, fun x hx => by simp [kd2] at hx, ?_, by simp [kd2], by simp [kd2]⟩
  refine set_sz (fun y hy => ?_) (tornv_len _ _ _ zs_len hb)
  rw [(List.mem_replicate.1 hy).2]
  exact zs_len
end Go.Proofs.Ytpelmacblglhoaa
