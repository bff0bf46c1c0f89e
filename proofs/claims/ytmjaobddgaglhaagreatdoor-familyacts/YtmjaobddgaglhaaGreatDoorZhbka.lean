import Derived.Test.YtmjaobddgaglhaaGreatDoorZhcrc
import Derived.Test.YtmjaobddgaglhaaGreatDoorZhmxa
import Derived.BigQuiet
namespace Go.Proofs.YtmjaobddgaglhaaGreatDoor
open Go.RowKit
open Sha
set_option maxRecDepth 8000
theorem and_low (n : Nat) (h : n < 9223372036854775808) : bits .and .i64 (n : Int) 4294967295 = ((n % 4294967296 : Nat) : Int) := by
  rw [show (4294967295 : Int) = ((4294967295 : Nat) : Int) from rfl, i64_and_natH _ _ h (by omega)]
  rw [show (4294967295 : Nat) = 2 ^ 32 - 1 from rfl, Nat.and_two_pow_sub_one_eq_mod]
theorem u_div (x : UInt32) (n : Nat) : u x / 2 ^ n = ((x.toNat / 2 ^ n : Nat) : Int) := by
  simp [u]
theorem u_mul (x : UInt32) (n : Nat) : u x * 2 ^ n = ((x.toNat * 2 ^ n : Nat) : Int) := by
  simp [u]
theorem rturn_eq (x : UInt32) (n : Nat) (n0 : 1 ≤ n) (n1 : n ≤ 31) :
    bits BinOp.and IntKind.i64 (bits BinOp.or IntKind.i64 (u x / 2 ^ n) (wrap64 (u x * 2 ^ (32 - n)))) 4294967295 = u (rr x n) := by
  have hx := x.toNat_lt
  have h1 : x.toNat / 2 ^ n < 9223372036854775808 := Nat.lt_of_le_of_lt (Nat.div_le_self _ _) (by omega)
  have h2 : x.toNat * 2 ^ (32 - n) < 9223372036854775808 := by
    have : 2 ^ (32 - n) ≤ 2 ^ 31 := Nat.pow_le_pow_right (by omega) (by omega)
    calc x.toNat * 2 ^ (32 - n) ≤ x.toNat * 2 ^ 31 := Nat.mul_le_mul_left _ this
      _ < 9223372036854775808 := by omega
  rw [u_div, u_mul, IntWalk.wrap64_in _ (by omega), i64_or_natH _ _ h1 h2, and_low _ (Nat.or_lt_two_pow (n := 63) h1 h2)]
  have e1 : u (lf x (32 - n)) = ((x.toNat * 2 ^ (32 - n) % 4294967296 : Nat) : Int) := by
    rw [← u_lf x _ (by omega), u_mul]; simp
  have e2 : u (rtK x n) = ((x.toNat / 2 ^ n : Nat) : Int) := by
    rw [← u_rt x _ (by omega), u_div]
  have e1' : (lf x (32 - n)).toNat = x.toNat * 2 ^ (32 - n) % 4294967296 := by unfold u at e1; omega
  have e2' : (rtK x n).toNat = x.toNat / 2 ^ n := by unfold u at e2; omega
  unfold rr oo u
  rw [UInt32.toNat_or, e1', e2', show (4294967296 : Nat) = 2 ^ 32 from rfl, Nat.or_mod_two_pow, Nat.or_comm]
  congr 2
  exact Nat.mod_eq_of_lt (Nat.lt_of_le_of_lt (Nat.div_le_self _ _) (by omega))
set_option maxHeartbeats 400000 in
theorem rturn_any (x : UInt32) (n : Int) (w : World) (n0 : 1 ≤ n) (n1 : n ≤ 31) :
    Calls Tryz.prog 141 #[.int .i64 (u x), .int .i64 n] w fun e w' => e = .returned (.int .i64 (u (rr x n.toNat))) ∧ ∃ q, w' = w.drewN q := by
  go_enter Tryz.func141, Tryz.ntmps141
  go_wp2_with fail
  go_quiet (fail)
  go_wp2
  go_ret
  refine ⟨ret_intH ?_, nq, rfl⟩
  have := rturn_eq x n.toNat (by omega) (by omega)
  rwa [show 32 - n.toNat = (32 - n).toNat from by omega] at this
/-- Cells of words as whole numbers. -/
def IH (x : UInt32) : Value := .int .i64 (u x)
def cI (l : List UInt32) : Array Value := (l.map IH).toArray
theorem cI_size (l : List UInt32) : (cI l).size = l.length := by simp [cI]
theorem cI_get (l : List UInt32) (i : Nat) (h : i < l.length) : (cI l)[i]? = some (.int .i64 (u (l.getD i 0))) := by
  simp [cI, IH, h]
theorem cI_set (l : List UInt32) (i : Nat) (x : UInt32) : (cI l).setIfInBounds i (.int .i64 (u x)) = cI (l.set i x) := by
  simp [cI, List.map_set, IH]
theorem cI_one (l : List UInt32) : (cI l).all (·.oneCell') = true := by
  simp [cI, IH, Value.oneCell']
theorem info148 : (Tryz.prog.info? 148).map (·.size) = some 8 := by kernel_rfl
theorem info150 : (Tryz.prog.info? 150).map (·.size) = some 64 := by kernel_rfl
theorem sz56 {l : List UInt32} (h : l.length = 8) : (Tryz.prog.info? 148).map (·.size) = some (cI l).size := by rw [cI_size, h]; exact info148
theorem sz58 {l : List UInt32} (h : l.length = 64) : (Tryz.prog.info? 150).map (·.size) = some (cI l).size := by rw [cI_size, h]; exact info150
def z8 : List UInt32 := List.replicate 8 0
theorem zi8 : cI z8 = #[.int .i64 0, .int .i64 0, .int .i64 0, .int .i64 0, .int .i64 0, .int .i64 0, .int .i64 0, .int .i64 0] := by rfl
theorem zi64 : cI z64 = #[.int .i64 0, .int .i64 0, .int .i64 0, .int .i64 0, .int .i64 0, .int .i64 0, .int .i64 0, .int .i64 0, .int .i64 0, .int .i64 0, .int .i64 0, .int .i64 0, .int .i64 0, .int .i64 0, .int .i64 0, .int .i64 0, .int .i64 0, .int .i64 0, .int .i64 0, .int .i64 0, .int .i64 0, .int .i64 0, .int .i64 0, .int .i64 0, .int .i64 0, .int .i64 0, .int .i64 0, .int .i64 0, .int .i64 0, .int .i64 0, .int .i64 0, .int .i64 0, .int .i64 0, .int .i64 0, .int .i64 0, .int .i64 0, .int .i64 0, .int .i64 0, .int .i64 0, .int .i64 0, .int .i64 0, .int .i64 0, .int .i64 0, .int .i64 0, .int .i64 0, .int .i64 0, .int .i64 0, .int .i64 0, .int .i64 0, .int .i64 0, .int .i64 0, .int .i64 0, .int .i64 0, .int .i64 0, .int .i64 0, .int .i64 0, .int .i64 0, .int .i64 0, .int .i64 0, .int .i64 0, .int .i64 0, .int .i64 0, .int .i64 0, .int .i64 0] := by rfl
def wt (b : List UInt8) (k : Nat) : List UInt32 := if k ≤ 16 then w1 b k else w2 b (k - 16)
theorem wt_len (b : List UInt8) (k : Nat) : (wt b k).length = 64 := by
  unfold wt; split
  · exact w1_len b k
  · exact w2_len b _
theorem wt_low (b : List UInt8) (k : Nat) (h : k < 16) : wt b (k + 1) = (wt b k).set k (Sha.be b k) := by
  unfold wt
  rw [if_pos (by omega), if_pos (by omega), w1]
theorem wt_high (b : List UInt8) (k : Nat) (h : 16 ≤ k) : wt b (k + 1) = (wt b k).set k (nx (wt b k) k) := by
  have e : wt b k = w2 b (k - 16) := by
    unfold wt
    split
    · have : k = 16 := by omega
      subst this; rfl
    · rfl
  rw [e, ← w2_next b k h, wt, if_neg (by omega)]
theorem wt_all (b : List UInt8) : wt b 64 = ws b := by unfold wt ws; rfl
theorem sh_byte (c : UInt8) (n : Nat) (m : Int) (hm : m = 2 ^ n) (h : n ≤ 24) : wrap64 (wrap64 (c.toNat : Int) * m) = u (lf (ub c) n) := by
  have hc := c.toNat_lt
  have h1 : (2 : Int) ^ n ≤ 2 ^ 24 := by
    have : (2 : Nat) ^ n ≤ 2 ^ 24 := Nat.pow_le_pow_right (by omega) h
    exact_mod_cast this
  have h0 : (0 : Int) < 2 ^ n := Int.pow_pos (by omega)
  have h2 : (c.toNat : Int) * 2 ^ n ≤ 255 * 2 ^ 24 := by
    refine Int.le_trans (Int.mul_le_mul_of_nonneg_left h1 (by omega)) ?_
    exact Int.mul_le_mul_of_nonneg_right (by omega) (by decide)
  have h3 : 0 ≤ (c.toNat : Int) * 2 ^ n := Int.mul_nonneg (by omega) (by omega)
  subst hm
  rw [wrap_cH, IntWalk.wrap64_in _ (by omega), ← u_lf _ n (by omega), ← u_ub, Int.emod_eq_of_lt h3 (by omega)]
theorem be64 (b : List UInt8) (k : Nat) (s0 : 4 * k < (ByteArray.mk b.toArray).size) (s1 : 4 * k + 1 < (ByteArray.mk b.toArray).size) (s2 : 4 * k + 2 < (ByteArray.mk b.toArray).size) (s3 : 4 * k + 3 < (ByteArray.mk b.toArray).size) :
    bits BinOp.or IntKind.i64
            (bits BinOp.or IntKind.i64
              (bits BinOp.or IntKind.i64 (wrap64 (wrap64 ((ByteArray.mk b.toArray)[4 * k].toNat : Int) * 16777216))
                (wrap64 (wrap64 ((ByteArray.mk b.toArray)[4 * k + 1].toNat : Int) * 65536)))
              (wrap64 (wrap64 ((ByteArray.mk b.toArray)[4 * k + 2].toNat : Int) * 256)))
            (wrap64 ((ByteArray.mk b.toArray)[4 * k + 3].toNat : Int)) = u (Sha.be b k) := by
  rw [sh_byte _ 24 16777216 rfl (by omega), sh_byte _ 16 65536 rfl (by omega), sh_byte _ 8 256 rfl (by omega), wrap_cH, u_ub, v_or, v_or, v_or]
  have e : ∀ j, (h : j < (ByteArray.mk b.toArray).size) → (ByteArray.mk b.toArray)[j] = b.getD j 0 := by
    intro j h
    have : j < b.length := by simpa [ByteArray.size] using h
    simp [this]
    rfl
  rw [e, e, e, e]
  rfl
theorem add_low (n : Int) (h0 : 0 ≤ n) (h1 : n < 9223372036854775808) : bits .and .i64 n 4294967295 = n % 4294967296 := by
  obtain ⟨m, rfl⟩ := Int.eq_ofNat_of_zero_le h0
  rw [and_low m (by omega)]
  omega
theorem wr2 (a b : UInt32) : wrap64 (u a + u b) = u a + u b := by
  have := u_lo a; have := u_lo b; have := u_hi a; have := u_hi b
  exact IntWalk.wrap64_in _ (by omega)
theorem wr3 (a b c : UInt32) : wrap64 (u a + u b + u c) = u a + u b + u c := by
  have := u_lo a; have := u_lo b; have := u_lo c; have := u_hi a; have := u_hi b; have := u_hi c
  exact IntWalk.wrap64_in _ (by omega)
theorem wr4 (a b c d : UInt32) : wrap64 (u a + u b + u c + u d) = u a + u b + u c + u d := by
  have := u_lo a; have := u_lo b; have := u_lo c; have := u_lo d
  have := u_hi a; have := u_hi b; have := u_hi c; have := u_hi d
  exact IntWalk.wrap64_in _ (by omega)
theorem wr5 (a b c d e : UInt32) : wrap64 (u a + u b + u c + u d + u e) = u a + u b + u c + u d + u e := by
  have := u_lo a; have := u_lo b; have := u_lo c; have := u_lo d; have := u_lo e
  have := u_hi a; have := u_hi b; have := u_hi c; have := u_hi d; have := u_hi e
  exact IntWalk.wrap64_in _ (by omega)
theorem sum4 (a b c d : UInt32) : bits .and .i64 (u a + u b + u c + u d) 4294967295 = u (ad (ad (ad a b) c) d) := by
  have := u_lo a; have := u_lo b; have := u_lo c; have := u_lo d
  have := u_hi a; have := u_hi b; have := u_hi c; have := u_hi d
  rw [add_low _ (by omega) (by omega), u_add4]
theorem nx64 (l : List UInt32) (i j k m t : Nat) (hi : i = t - 16) (hj : j = t - 15) (hk : k = t - 7) (hm : m = t - 2) :
    bits BinOp.and IntKind.i64 (wrap64 (wrap64 (wrap64 (u (l[i]?.getD 0) + bits BinOp.xor IntKind.i64 (bits BinOp.xor IntKind.i64 (u (rr (l[j]?.getD 0) 7)) (u (rr (l[j]?.getD 0) 18))) (u (l[j]?.getD 0) / 8)) + u (l[k]?.getD 0)) +
      bits BinOp.xor IntKind.i64 (bits BinOp.xor IntKind.i64 (u (rr (l[m]?.getD 0) 17)) (u (rr (l[m]?.getD 0) 19))) (u (l[m]?.getD 0) / 1024))) 4294967295 = u (nx l t) := by
  subst hi hj hk hm
  have e3 (x : UInt32) : u x / 8 = u (rtK x 3) := u_rt x 3 (by omega)
  have e10 (x : UInt32) : u x / 1024 = u (rtK x 10) := u_rt x 10 (by omega)
  simp only [e3, e10, v_xor, wr2, wr3, wr4, sum4, nx, List.getD_eq_getElem?_getD]
theorem v_not (a : UInt32) : bits .xor .i64 4294967295 (u a) = u (nt a) := by
  rw [show (4294967295 : Int) = u 4294967295 from rfl, v_xor, ← u_not, show (4294967295 : Int) = u 4294967295 from rfl, u_xor]
structure RB (w wr : World) (s k l : List UInt32) : Prop where
  rs : RowK wr w.heap.size (cI s) 148
  rk : RowK wr (w.heap.size + 1) (cI k) 150
  rz : RowK wr (w.heap.size + 1 + 1) (cI z8) 148
  rl : RowK wr (w.heap.size + 1 + 1 + 1) (cI l) 150
  be : Below w.heap.size w wr
  sz : wr.heap.size = w.heap.size + 4
theorem RB.start (w : World) (s k : List UInt32) (b : List UInt8) : RB w ((((w.alloc (.cells (cI s) 148)).alloc (.cells (cI k) 150)).alloc (.cells (cI z8) 148)).alloc (.cells (cI z64) 150)) s k (wt b 0) := by
  refine ⟨?_, ?_, ?_, ?_, ?_, ?_⟩
  · exact (((RowK.new w (cI s) 148).alloc _).alloc _).alloc _
  · have := ((RowK.new (w.alloc (.cells (cI s) 148)) (cI k) 150).alloc (.cells (cI z8) 148)).alloc (.cells (cI z64) 150)
    simpa only [World.size_alloc] using this
  · have := (RowK.new ((w.alloc (.cells (cI s) 148)).alloc (.cells (cI k) 150)) (cI z8) 148).alloc (.cells (cI z64) 150)
    simpa only [World.size_alloc] using this
  · have := RowK.new (((w.alloc (.cells (cI s) 148)).alloc (.cells (cI k) 150)).alloc (.cells (cI z8) 148)) (cI z64) 150
    simp only [World.size_alloc] at this
    exact this
  · exact ((((Below.refl _ _).alloc (Nat.le_refl _) _).alloc (by simp) _).alloc (by simp; omega) _).alloc (by simp; omega) _
  · simp
theorem RB.drewN {w wr : World} {s k l : List UInt32} (h : RB w wr s k l) (n : Nat) : RB w (wr.drewN n) s k l :=
  ⟨h.rs.drewN n, h.rk.drewN n, h.rz.drewN n, h.rl.drewN n, ⟨h.be.os, h.be.tape, h.be.output, h.be.size, h.be.block⟩, by simpa using h.sz⟩
theorem RB.store {w wr : World} {s k l : List UInt32} (h : RB w wr s k l) (n i : Nat) (x : UInt32) : RB w ((wr.setCell ⟨w.heap.size + 1 + 1 + 1, i, none⟩ (.int .i64 (u x))).drewN n) s k (l.set i x) := by
  refine ⟨?_, ?_, ?_, ?_, ?_, ?_⟩
  · exact (h.rs.set_other _ _ (by simp; omega)).drewN n
  · exact (h.rk.set_other _ _ (by simp)).drewN n
  · exact (h.rz.set_other _ _ (by simp)).drewN n
  · have := (h.rl.set i (.int .i64 (u x))).drewN n
    rwa [cI_set] at this
  · have := h.be.setCell (p := ⟨w.heap.size + 1 + 1 + 1, i, none⟩) (show w.heap.size ≤ w.heap.size + 1 + 1 + 1 by omega) (.int .i64 (u x))
    exact ⟨this.os, this.tape, this.output, this.size, this.block⟩
  · simpa [World.setCell] using h.sz
/-- The rows while the words are mixed in. -/
structure RV (w wr : World) (s : List UInt32) (b : List UInt8) (v : St) : Prop where
  rs : RowK wr w.heap.size (cI s) 148
  rk : RowK wr (w.heap.size + 1) (cI ks) 150
  rz : RowK wr (w.heap.size + 1 + 1) (cI z8) 148
  rl : RowK wr (w.heap.size + 1 + 1 + 1) (cI (ws b)) 150
  rv : RowK wr (w.heap.size + 4) (cI v.l) 148
  be : Below w.heap.size w wr
theorem RB.next {w wr : World} {s : St} {b : List UInt8} (h : RB w wr s.l ks (ws b)) (c : Array Value) : RV w ((wr.alloc (.cells c 148)).setRow (w.heap.size + 4) (cI s.l)) s.l b s := by
  have hs := h.sz
  have hb := h.be.alloc h.be.size (.cells c 148)
  have e : RowK (wr.alloc (.cells c 148)) (w.heap.size + 4) c 148 := by rw [← hs]; exact RowK.new wr c 148
  exact ⟨(h.rs.alloc _).setRow_other _ _ (by omega), (h.rk.alloc _).setRow_other _ _ (by omega), (h.rz.alloc _).setRow_other _ _ (by omega), (h.rl.alloc _).setRow_other _ _ (by omega), e.setRow _, below_row hb (by omega) _⟩
theorem RV.c {w wr : World} {s : List UInt32} {b : List UInt8} {v : St} (h : RV w wr s b v) :
    wr.cell? ⟨w.heap.size + 4, 0, none⟩ = some (.int .i64 (u v.a)) ∧ wr.cell? ⟨w.heap.size + 4, 1, none⟩ = some (.int .i64 (u v.b)) ∧ wr.cell? ⟨w.heap.size + 4, 2, none⟩ = some (.int .i64 (u v.c)) ∧ wr.cell? ⟨w.heap.size + 4, 3, none⟩ = some (.int .i64 (u v.d)) ∧
    wr.cell? ⟨w.heap.size + 4, 4, none⟩ = some (.int .i64 (u v.e)) ∧ wr.cell? ⟨w.heap.size + 4, 5, none⟩ = some (.int .i64 (u v.f)) ∧ wr.cell? ⟨w.heap.size + 4, 6, none⟩ = some (.int .i64 (u v.g)) ∧ wr.cell? ⟨w.heap.size + 4, 7, none⟩ = some (.int .i64 (u v.h)) := by
  refine ⟨?_, ?_, ?_, ?_, ?_, ?_, ?_, ?_⟩ <;> (rw [h.rv.cell]; rfl)
theorem RV.drewN {w wr : World} {s : List UInt32} {b : List UInt8} {v : St} (h : RV w wr s b v) (n : Nat) : RV w (wr.drewN n) s b v :=
  ⟨h.rs.drewN n, h.rk.drewN n, h.rz.drewN n, h.rl.drewN n, h.rv.drewN n, ⟨h.be.os, h.be.tape, h.be.output, h.be.size, h.be.block⟩⟩
theorem RV.store {w wr : World} {s : List UInt32} {b : List UInt8} {v : St} (h : RV w wr s b v) (v' : St) : RV w (wr.setRow (w.heap.size + 4) (cI v'.l)) s b v' :=
  ⟨h.rs.setRow_other _ _ (by omega), h.rk.setRow_other _ _ (by omega), h.rz.setRow_other _ _ (by omega), h.rl.setRow_other _ _ (by omega), h.rv.setRow _, below_row h.be (by omega) _⟩
theorem RV.put {w wr : World} {s : List UInt32} {b : List UInt8} {v : St} (h : RV w wr s b v) (k n : Nat) (x : UInt32) : RV w ((wr.setCell ⟨w.heap.size, k, none⟩ (.int .i64 (u x))).drewN n) (s.set k x) b v := by
  refine ⟨?_, (h.rk.set_other _ _ (by simp)).drewN n, (h.rz.set_other _ _ (by simp; omega)).drewN n, (h.rl.set_other _ _ (by simp; omega)).drewN n, (h.rv.set_other _ _ (by simp)).drewN n, ?_⟩
  · have := (h.rs.set k (.int .i64 (u x))).drewN n
    rwa [cI_set] at this
  · have := h.be.setCell (p := ⟨w.heap.size, k, none⟩) (Nat.le_refl _) (.int .i64 (u x))
    exact ⟨this.os, this.tape, this.output, this.size, this.block⟩
/-- The sums of a round, not yet cut to 32 bits. -/
def xi (v : St) (kk ww : UInt32) : Int := u v.h + u (xr (xr (rr v.e 6) (rr v.e 11)) (rr v.e 25)) + u (xr (an v.e v.f) (an (nt v.e) v.g)) + u kk + u ww
def yi (v : St) : Int := u (xr (xr (rr v.a 2) (rr v.a 13)) (rr v.a 22)) + u (xr (xr (an v.a v.b) (an v.a v.c)) (an v.b v.c))
theorem xi_eq (v : St) (kk ww : UInt32) : wrap64 (wrap64 (wrap64 (wrap64 (u v.h + bits .xor .i64 (bits .xor .i64 (u (rr v.e 6)) (u (rr v.e 11))) (u (rr v.e 25))) + bits .xor .i64 (bits .and .i64 (u v.e) (u v.f)) (bits .and .i64 (bits .xor .i64 4294967295 (u v.e)) (u v.g))) + u kk) + u ww) = xi v kk ww := by
  simp only [v_not, v_xor, v_and, wr2, wr3, wr4, wr5, xi]
theorem yi_eq (v : St) : wrap64 (bits .xor .i64 (bits .xor .i64 (u (rr v.a 2)) (u (rr v.a 13))) (u (rr v.a 22)) + bits .xor .i64 (bits .xor .i64 (bits .and .i64 (u v.a) (u v.b)) (bits .and .i64 (u v.a) (u v.c))) (bits .and .i64 (u v.b) (u v.c))) = yi v := by
  simp only [v_xor, v_and, wr2, yi]
theorem xi_mod (v : St) (kk ww : UInt32) : xi v kk ww % 4294967296 = u (x1 v kk ww) := by
  unfold xi x1
  rw [← u_add5]
  omega
theorem yi_mod (v : St) : yi v % 4294967296 = u (y1 v) := by
  unfold yi y1
  rw [← u_add]
theorem xi_lo (v : St) (kk ww : UInt32) : 0 ≤ xi v kk ww ∧ xi v kk ww < 21474836480 := by
  unfold xi
  have := u_lo v.h; have := u_hi v.h
  have := u_lo (xr (xr (rr v.e 6) (rr v.e 11)) (rr v.e 25)); have := u_hi (xr (xr (rr v.e 6) (rr v.e 11)) (rr v.e 25))
  have := u_lo (xr (an v.e v.f) (an (nt v.e) v.g)); have := u_hi (xr (an v.e v.f) (an (nt v.e) v.g))
  have := u_lo kk; have := u_hi kk
  have := u_lo ww; have := u_hi ww
  omega
theorem yi_lo (v : St) : 0 ≤ yi v ∧ yi v < 8589934592 := by
  unfold yi
  have := u_lo (xr (xr (rr v.a 2) (rr v.a 13)) (rr v.a 22)); have := u_hi (xr (xr (rr v.a 2) (rr v.a 13)) (rr v.a 22))
  have := u_lo (xr (xr (an v.a v.b) (an v.a v.c)) (an v.b v.c)); have := u_hi (xr (xr (an v.a v.b) (an v.a v.c)) (an v.b v.c))
  omega
theorem rnd_cellsI (v : St) (kk ww : UInt32) : (#[.int .i64 (bits .and .i64 (wrap64 (xi v kk ww + yi v)) 4294967295), .int .i64 (u v.a), .int .i64 (u v.b), .int .i64 (u v.c), .int .i64 (bits .and .i64 (wrap64 (u v.d + xi v kk ww)) 4294967295), .int .i64 (u v.e), .int .i64 (u v.f), .int .i64 (u v.g)] : Array Value) = cI (rnd v kk ww).l := by
  have hx := xi_lo v kk ww
  have hy := yi_lo v
  have hd := u_lo v.d
  have hd' := u_hi v.d
  have e1 : bits .and .i64 (wrap64 (xi v kk ww + yi v)) 4294967295 = u (ad (x1 v kk ww) (y1 v)) := by
    rw [IntWalk.wrap64_in _ (by omega), add_low _ (by omega) (by omega), ← u_add, ← xi_mod, ← yi_mod]; omega
  have e2 : bits .and .i64 (wrap64 (u v.d + xi v kk ww)) 4294967295 = u (ad v.d (x1 v kk ww)) := by
    rw [IntWalk.wrap64_in _ (by omega), add_low _ (by omega) (by omega), ← u_add, ← xi_mod]; omega
  rw [e1, e2]; rfl
theorem sum2 (a b : UInt32) : bits .and .i64 (wrap64 (u a + u b)) 4294967295 = u (ad a b) := by
  rw [wr2]
  have := u_lo a; have := u_lo b; have := u_hi a; have := u_hi b
  rw [add_low _ (by omega) (by omega), u_add]
end Go.Proofs.YtmjaobddgaglhaaGreatDoor
namespace Go.Proofs.YtmjaobddgaglhaaGreatDoor
open Go.RowKit
open Sha
set_option maxRecDepth 8000
theorem st_len (s : St) : s.l.length = 8 := rfl
set_option maxHeartbeats 2000000 in
set_option maxRecDepth 100000 in
theorem block_any (s : St) (b : List UInt8) (w : World) (hb : b.length = 64) :
    Calls Tryz.prog 120 #[.agg (cI s.l), .agg (cI ks), .string ⟨b.toArray⟩] w fun e w' => e = .returned (.agg (cI (mx s b).l)) ∧ Below w.heap.size w w' := by
  have hst := RB.start w s.l ks b
  rw [zi8, zi64] at hst
  have HST := hide hst
  clear hst
  go_enter Tryz.func120, Tryz.ntmps120
  go_wp2
  go_loopw [8] (fun i wr => ∃ k : Nat, k ≤ 64 ∧ i = .int .i64 k ∧ RB w wr s.l ks (wt b k)) (fun i _ => 64 - (intOf i).toNat)
  case atStart => exact ⟨0, by omega, rfl, unhide HST⟩
  case round =>
    clear HST
    obtain ⟨k, hk, rfl, h1⟩ := hrel
    have hl := wt_len b k
    by_cases hlt : k < 64
    · by_cases h16 : k < 16
      · have s0 : 4 * k < (ByteArray.mk b.toArray).size := by simp [ByteArray.size]; omega
        have s1 : 4 * k + 1 < (ByteArray.mk b.toArray).size := by simp [ByteArray.size]; omega
        have s2 : 4 * k + 2 < (ByteArray.mk b.toArray).size := by simp [ByteArray.size]; omega
        have s3 : 4 * k + 3 < (ByteArray.mk b.toArray).size := by simp [ByteArray.size]; omega
        have f4 : wr.cell? ⟨w.heap.size + 1 + 1 + 1, k, none⟩ = some (.int .i64 (u ((wt b k).getD k 0))) := by rw [h1.rl.cell]; exact cI_get _ _ (by omega)
        have f5 : wr.frozen? ⟨w.heap.size + 1 + 1 + 1, k, none⟩ = false := h1.rl.frozen k
        have t0 : (4 * (k : Int)) < 64 := by omega
        have t1 : (4 * (k : Int) + 1) < 64 := by omega
        have t2 : (4 * (k : Int) + 2) < 64 := by omega
        have t3 : (4 * (k : Int) + 3) < 64 := by omega
        have p0 : 0 ≤ (4 * (k : Int)) := by omega
        have p1 : 0 ≤ (4 * (k : Int) + 1) := by omega
        have p2 : 0 ≤ (4 * (k : Int) + 2) := by omega
        have p3 : 0 ≤ (4 * (k : Int) + 3) := by omega
        go_wp2
        go_region
        all_goals (go_wp2; go_roundw)
        case rel =>
          refine ⟨k + 1, by omega, by go_num, ?_⟩
          rw [wt_low b k h16]
          rw [be64]
          exact h1.store 1 k _
        case measure => simp [intOf]; omega
      · have hge : 16 ≤ k := by omega
        have f0 : wr.cell? ⟨w.heap.size + 1 + 1 + 1, k - 15, none⟩ = some (.int .i64 (u ((wt b k).getD (k - 15) 0))) := by rw [h1.rl.cell]; exact cI_get _ _ (by omega)
        have f1 : wr.cell? ⟨w.heap.size + 1 + 1 + 1, k - 2, none⟩ = some (.int .i64 (u ((wt b k).getD (k - 2) 0))) := by rw [h1.rl.cell]; exact cI_get _ _ (by omega)
        have hd : decide ((k : Int) < 16) = false := by simp; omega
        have H1 := hide h1
        have HL := hide hl
        clear h1 hl h16
        go_wp2_with fail
        refine (rturn_any _ _ _ (by omega) (by omega)).mono ?_
        rintro e wa ⟨rfl, na, rfl⟩
        go_wp2_with fail
        refine (rturn_any _ _ _ (by omega) (by omega)).mono ?_
        rintro e wa ⟨rfl, nb', rfl⟩
        go_wp2_with fail
        refine (rturn_any _ _ _ (by omega) (by omega)).mono ?_
        rintro e wa ⟨rfl, nc, rfl⟩
        go_wp2_with fail
        refine (rturn_any _ _ _ (by omega) (by omega)).mono ?_
        rintro e wa ⟨rfl, nd, rfl⟩
        have h2 := (unhide H1).drewN (na + nb' + nc + nd)
        clear H1 f0 f1
        simp only [World.drewN_drewN]
        generalize wr.drewN (na + nb' + nc + nd) = w2 at *
        have f2 : w2.cell? ⟨w.heap.size + 1 + 1 + 1, k - 16, none⟩ = some (.int .i64 (u ((wt b k).getD (k - 16) 0))) := by rw [h2.rl.cell]; exact cI_get _ _ (by have := unhide HL; omega)
        have f3 : w2.cell? ⟨w.heap.size + 1 + 1 + 1, k - 7, none⟩ = some (.int .i64 (u ((wt b k).getD (k - 7) 0))) := by rw [h2.rl.cell]; exact cI_get _ _ (by have := unhide HL; omega)
        have f4 : w2.cell? ⟨w.heap.size + 1 + 1 + 1, k, none⟩ = some (.int .i64 (u ((wt b k).getD k 0))) := by rw [h2.rl.cell]; exact cI_get _ _ (by have := unhide HL; omega)
        have f5 : w2.frozen? ⟨w.heap.size + 1 + 1 + 1, k, none⟩ = false := h2.rl.frozen k
        have H2 := hide h2
        clear h2
        go_wp2
        go_region
        all_goals (go_wp2; go_roundw)
        case rel =>
          refine ⟨k + 1, by omega, by go_num, ?_⟩
          rw [wt_high b k hge]
          rw [nx64 _ _ _ _ _ k rfl rfl rfl rfl]
          exact (unhide H2).store 1 k _
        case measure => simp [intOf]; omega
    · have hk64 : k = 64 := by omega
      have hd : decide ((k : Int) < 64) = false := by simp; omega
      rw [hk64, wt_all] at h1
      have H1 := hide h1
      have HR := hide h1.rs
      have h4 := h1.sz
      clear h1 hl hlt hk64
      have HN : Hid (RowK (wr.alloc (.cells #[.int .i64 0, .int .i64 0, .int .i64 0, .int .i64 0, .int .i64 0, .int .i64 0, .int .i64 0, .int .i64 0] 148)) (w.heap.size + 4) (cI z8) 148) := hide (by rw [← zi8, ← h4]; exact RowK.new wr (cI z8) 148)
      go_wp2_with (first | (refine wpList_load_row rfl 148 (.tmp 3) rfl w.heap.size rfl 148 (cI s.l) (0, 0) _ (unhide HR) Tryz.underlying148 rfl (sz56 (st_len _)) ?_) | (refine wpList_store_row rfl 148 (.tmp 13) (.tmp 95) rfl (w.heap.size + 4) (cI s.l) (by rfl) (by rfl) 148 (cI z8) (unhide HN) (sz56 (st_len _)) (by rw [cI_size, cI_size, st_len]; rfl) (cI_one _) ?_))
      have h2 := (unhide H1).next (cI z8)
      rw [zi8] at h2
      have H2 := hide h2
      clear H1 HR HN h2
      generalize (wr.alloc (.cells #[.int .i64 0, .int .i64 0, .int .i64 0, .int .i64 0, .int .i64 0, .int .i64 0, .int .i64 0, .int .i64 0] 148)).setRow (w.heap.size + 4) (cI s.l) = wv at *
      go_loopw [14] (fun i wr => ∃ t : Nat, t ≤ 64 ∧ i = .int .i64 t ∧ RV w wr s.l b (rn (ws b) s t)) (fun i _ => 64 - (intOf i).toNat)
      case atStart => exact ⟨0, by omega, rfl, unhide H2⟩
      case round =>
        clear H2 h4 hd hk
        obtain ⟨t, ht, rfl, h1⟩ := hrel
        by_cases hlt : t < 64
        · have i0 : (0 : Int) ≤ (t : Int) := by omega
          have i1 : (t : Int) < 64 := by omega
          have cw : wr.cell? ⟨w.heap.size + 1 + 1 + 1, t, none⟩ = some (.int .i64 (u ((ws b).getD t 0))) := by rw [h1.rl.cell]; exact cI_get _ _ (by rw [ws_len]; omega)
          have ck : wr.cell? ⟨w.heap.size + 1, t, none⟩ = some (.int .i64 (u (ks.getD t 0))) := by rw [h1.rk.cell]; exact cI_get _ _ (by rw [ks_len]; omega)
          generalize hv : rn (ws b) s t = v at h1
          generalize hkk : ks.getD t 0 = kk at ck
          generalize hww : (ws b).getD t 0 = ww at cw
          have HV := hide hv
          have HKK := hide hkk
          have HWW := hide hww
          clear hv hkk hww
          obtain ⟨f0, f1, f2, f3, f4, f5, f6, f7⟩ := h1.c
          go_wp2_with fail
          go_quiet ((go_at_call 141; exact Calls.quiet_of (rturn_any _ _ _ (by omega) (by omega))))
          rw [xi_eq]
          have h2 := h1.drewN nq
          clear h1 f0 f1 f2 f3 f4 f5 f6 f7 ck cw
          generalize wr.drewN nq = w2 at *
          obtain ⟨f0, f1, f2, f3, f4, f5, f6, f7⟩ := h2.c
          go_wp2_with fail
          go_quiet ((go_at_call 141; exact Calls.quiet_of (rturn_any _ _ _ (by omega) (by omega))))
          rw [yi_eq]
          have h3 := h2.drewN nq
          clear h2 f0 f1 f2 f3 f4 f5 f6 f7
          generalize w2.drewN nq = w3 at *
          obtain ⟨f0, f1, f2, f3, f4, f5, f6, f7⟩ := h3.c
          have H3 := hide h3
          clear h3
          go_wp2_with (refine wpList_store_row rfl 148 (.tmp 13) (.tmp 185) rfl (w.heap.size + 4) (cI (rnd v kk ww).l) (by rfl) (by exact congrArg Value.agg (rnd_cellsI v kk ww)) 148 (cI v.l) (unhide H3).rv (sz56 (st_len _)) (by rw [cI_size, cI_size, st_len]; rfl) (cI_one _) ?_)
          go_roundw
          case rel =>
            refine ⟨t + 1, by omega, by go_num, ?_⟩
            have e : rn (ws b) s (t + 1) = rnd v kk ww := by rw [rn, unhide HV, unhide HKK, unhide HWW]
            rw [e]
            exact (unhide H3).store _
          case measure => simp [intOf]; omega
        · have h64 : t = 64 := by omega
          have hd : decide ((t : Int) < 64) = false := by simp; omega
          generalize hv : rn (ws b) s t = v at h1
          have HV := hide (show rn (ws b) s 64 = v by rw [← hv, h64])
          clear hv hlt h64
          have h0 : RV w wr (part s.l v.l 0) b v := h1
          have H0 := hide h0
          clear h0 h1
          go_wp2
          go_loopw [17] (fun i wr => ∃ k : Nat, k ≤ 8 ∧ i = .int .i64 k ∧ RV w wr (part s.l v.l k) b v) (fun i _ => 8 - (intOf i).toNat)
          case atStart => exact ⟨0, by omega, rfl, unhide H0⟩
          case round =>
            clear H0
            obtain ⟨j, hj, rfl, h1⟩ := hrel
            by_cases hlt : j < 8
            · have i0 : (0 : Int) ≤ (j : Int) := by omega
              have i1 : (j : Int) < 8 := by omega
              have c2 : wr.cell? ⟨w.heap.size, j, none⟩ = some (.int .i64 (u (s.l.getD j 0))) := by
                rw [h1.rs.cell, cI_get _ _ (by rw [part_len]; exact hlt), part_at _ _ _ hlt]
              have z2 : wr.frozen? ⟨w.heap.size, j, none⟩ = false := h1.rs.frozen j
              have c7 : wr.cell? ⟨w.heap.size + 4, j, none⟩ = some (.int .i64 (u (v.l.getD j 0))) := by
                rw [h1.rv.cell, cI_get _ _ (show j < 8 from hlt)]
              have n7 : w.heap.size + 4 ≠ w.heap.size := by omega
              generalize hx : s.l.getD j 0 = x at c2
              generalize hy : v.l.getD j 0 = y at c7
              have HX := hide hx
              have HY := hide hy
              have H1 := hide h1
              clear hx hy h1
              go_wp2
              go_region
              all_goals (go_wp2; go_roundw)
              case rel =>
                refine ⟨j + 1, by omega, by go_num, ?_⟩
                rw [sum2, part_next _ _ _ hlt, unhide HX, unhide HY]
                exact (unhide H1).put j 1 _
              case measure => simp [intOf]; omega
            · have hk8 : j = 8 := by omega
              have hd8 : decide ((j : Int) < 8) = false := by simp; omega
              have e8 : part s.l v.l j = (mx s b).l := by rw [hk8, part_last, mx, unhide HV]
              have rz := h1.rz
              have rs := h1.rs
              rw [e8] at rs
              have hbe := h1.be
              clear h1 hk8 e8 hlt hj HV
              have HR := hide rs
              have HZ := hide rz
              clear rs rz
              go_wp2_with (first | (refine wpList_load_row rfl 148 (.tmp 3) rfl w.heap.size rfl 148 (cI (mx s b).l) (0, 0) _ (unhide HR) Tryz.underlying148 rfl (sz56 (st_len _)) ?_) | (refine wpList_store_row rfl 148 (.tmp 6) (.tmp 200) rfl (w.heap.size + 1 + 1) (cI (mx s b).l) (by rfl) (by rfl) 148 (cI z8) (unhide HZ) (sz56 (st_len _)) (by rw [cI_size, cI_size, st_len]; rfl) (cI_one _) ?_))
              have hr := (unhide HZ).setRow (cI (mx s b).l)
              exact bodyPost_ret (v := .agg (cI (mx s b).l)) (results_cell_row Tryz.results120 _ _ (w.heap.size + 1 + 1) 148 (cI (mx s b).l) (0, 0) _ rfl hr Tryz.underlying148 rfl (sz56 (st_len _))) rfl ⟨rfl, below_row hbe (by omega) _⟩
end Go.Proofs.YtmjaobddgaglhaaGreatDoor
