import Derived.Test.YtpelmacblglhoaaDst
import Derived.Test.YtpelmacblglhoaaZzar
import Derived.Test.YtpelmacblglhoaaDetl
namespace Go.Proofs.Ytpelmacblglhoaa
open Go.RowKit
set_option maxHeartbeats 4000000
set_option maxRecDepth 8000
theorem Ok.new {l : List Bs} (h : mayv l.length = true) (ha : allR l = true) : Ok (Ds.new l) := by
  obtain ⟨m1, m2⟩ : (8 : Int) ≤ (l.length : Int) ∧ (l.length : Int) ≤ 4096 := by simpa [mayv] using h
  refine ⟨fun i j h1 h2 => by simp [Ds.new] at h2, fun x hx => by simp [Ds.new] at hx, fun x hx => ?_, ⟨by show 8 ≤ l.length; omega, by show l.length ≤ 4096; omega⟩, ⟨by show (0 : Int) ≤ 0; omega, by show (0 : Int) ≤ _; omega⟩⟩
  have := List.all_eq_true.1 ha x hx
  simpa using this
theorem Ok.zs {n : Nat} (h : mayv n = true) : Ok (Ds.new (List.replicate n zs)) := Ok.new (by simpa using h) (allR_zs n)
def kd1 (bk : Bs) : Ds := { ws := [(2, bk)], last := List.replicate 8 zs, fuse := 0, dead := false, acts := 1 }
def kd2 (bk : Bs) : Ds := { ws := [], last := (List.replicate 8 zs).set 2 (tornv zs bk 2), fuse := 0, dead := false, acts := 1 }
theorem kw1 (bk : Bs) (hb : bk.length = 512) : writev (Ds.new (List.replicate 8 zs)) 2 bk = 0 ∧ (Ds.new (List.replicate 8 zs)).write 2 bk = kd1 bk := by
  have h1 : reachv (Ds.new (List.replicate 8 zs)) 2 = 0 := by simp [reachv, Ds.new]
  have h2 : actv (Ds.new (List.replicate 8 zs)) = 0 := by simp [actv, Ds.new]
  constructor
  · unfold writev
    rw [if_neg (by simpa using hb), if_neg (by simpa using h1), h2]
  · unfold Ds.write
    rw [if_neg (by simpa using hb), if_neg (by simpa using h1), if_neg (by simpa using h2)]
    simp [Ds.act, Ds.new, Ds.put, putW, kd1]
    decide
theorem kok1 (bk : Bs) (hb : bk.length = 512) : Ok (kd1 bk) := by
  have := (Ok.zs (n := 8) (by decide)).write 2 bk
  rwa [(kw1 bk hb).2] at this
theorem kr1 (bk : Bs) : readS (kd1 bk) 2 = bk ∧ reachv (kd1 bk) 2 = 0 := by
  have h1 : reachv (kd1 bk) 2 = 0 := by simp [reachv, kd1]
  refine ⟨?_, h1⟩
  unfold readS
  rw [if_pos h1]
  simp [cur, kd1, fnd]
theorem kst (bk : Bs) : stps (List.replicate (kd1 bk).ws.length none) [((0 : Int), (2 : Int))] = some [some 2] := by
  show stps (List.replicate 1 none) [((0 : Int), (2 : Int))] = some [some 2]
  decide
theorem kc1 (bk : Bs) : crashv (kd1 bk) [((0 : Int), (2 : Int))] = 0 ∧ (kd1 bk).crash [((0 : Int), (2 : Int))] = kd2 bk := by
  constructor
  · unfold crashv
    rw [kst]
    rfl
  · unfold Ds.crash
    rw [kst]
    simp only
    show (_ : Ds) = kd2 bk
    unfold kd2 kd1 crs crs
    simp
theorem sect_zs (s : Nat) (h : s < 8) : sect s zs = List.replicate 64 0 := by
  unfold sect zs
  rw [List.drop_replicate, List.take_replicate]
  congr 1
  omega
theorem torn_known (bk : Bs) : tornv zs bk 2 = (List.replicate 64 0 ++ (bk.drop 64).take (128 - 64)) ++ List.replicate 384 0 := by
  have e : List.range 8 = [0, 1, 2, 3, 4, 5, 6, 7] := by rfl
  unfold tornv tornK
  rw [e]
  have i0 : inSet 2 0 = false := by decide
  have i1 : inSet 2 1 = true := by decide
  have i2 : inSet 2 2 = false := by decide
  have i3 : inSet 2 3 = false := by decide
  have i4 : inSet 2 4 = false := by decide
  have i5 : inSet 2 5 = false := by decide
  have i6 : inSet 2 6 = false := by decide
  have i7 : inSet 2 7 = false := by decide
  simp only [List.flatMap_cons, List.flatMap_nil, i0, i1, i2, i3, i4, i5, i6, i7, if_true, Bool.false_eq_true, if_false, List.append_nil]
  rw [sect_zs 0 (by omega), sect_zs 2 (by omega), sect_zs 3 (by omega), sect_zs 4 (by omega), sect_zs 5 (by omega), sect_zs 6 (by omega), sect_zs 7 (by omega)]
  rw [List.append_assoc]
  congr 1
theorem kok2 (bk : Bs) (hb : bk.length = 512) : Ok (kd2 bk) := by
  refine ⟨fun i j h1 h2 => by simp [kd2] at h2, fun x hx => by simp [kd2] at hx, ?_, by simp [kd2], by simp [kd2]⟩
  refine set_sz (fun y hy => ?_) (tornv_len _ _ _ zs_len hb)
  rw [(List.mem_replicate.1 hy).2]
  exact zs_len
end Go.Proofs.Ytpelmacblglhoaa
/- A region that draws its order, some of whose values come up only as it goes: what is chosen so far is carried. -/
namespace Go.Proofs.Ytpelmacblglhoaa
open Go.RowKit
variable {C : Type} {ops : Array Oper} {Q : Exit → Act → World → Prop}
def DoesX (ops : Array Oper) (Q : Exit → Act → World → Prop) (Wd : C → (Nat → Bool) → World → Prop) (val : C → Nat → Value) (i : Nat) (L : Nat → Bool) (c : C) (a : Act) (w : World) : Prop :=
  wpOp Try.prog ops Q i (fun a' w' => ∃ c', (∀ j, L j = true → val c' j = val c j) ∧ a' = a.put (dstOf ops i) (val c' i) ∧ Wd c' (upd L i) w') a w
theorem doesX_of {Wd : C → (Nat → Bool) → World → Prop} {val : C → Nat → Value} {i : Nat} {L : Nat → Bool} {c : C} {a : Act} {w : World} (h : DoesL ops Q (Wd c) (val c) i L a w) : DoesX ops Q Wd val i L c a w := by
  unfold DoesX
  refine wpOp_mono ?_ h
  rintro a' w' ⟨rfl, hw⟩
  exact ⟨c, fun _ _ => rfl, rfl, hw⟩
theorem doesX_call {Wd : C → (Nat → Bool) → World → Prop} {val : C → Nat → Value} {i : Nat} {L : Nat → Bool} {c : C} {o : Oper} {a : Act} {w : World} (ho : ops[i]? = some o) (hw : Region.wanted o (yielded ops a.tmps) = true) (f : FuncId) (args : Array Value)
    (hr : (execOp a.eval o).run Try.prog w = .ok (.enter f args) w) (hc : Calls Try.prog f args w fun e w' => ∃ c', (∀ j, L j = true → val c' j = val c j) ∧ e = .returned (val c' i) ∧ Wd c' (upd L i) w') : DoesX ops Q Wd val i L c a w := by
  unfold DoesX wpOp
  simp only [ho]
  rw [if_pos hw]
  left
  unfold Oper.wp
  rw [hr, Oper.upon_enter]
  refine hc.mono ?_
  rintro e w' ⟨c', h1, rfl, hW⟩
  refine ⟨c', h1, ?_, hW⟩
  simp [dstOf, ho]
theorem frm_congr {a0 : Act} {v v' : Nat → Value} {L : Nat → Bool} (h : ∀ j, L j = true → v' j = v j) : ∀ n, frm ops a0 v' L n = frm ops a0 v L n := by
  intro n
  induction n with
  | zero => rfl
  | succ n ih =>
    simp only [frm]
    split
    · rename_i hn
      rw [ih, h n hn]
    · exact ih
theorem region_detX {id : Nat} {a0 : Act} {w : World} (val : C → Nat → Value) (Wd : C → (Nat → Bool) → World → Prop)
    (hac : ∀ i o, ops[i]? = some o → ∀ e ∈ o.after, Region.binds .any e = true → e.on < i)
    (hdis : ∀ i j, j ≠ i → dstOf ops j ≠ dstOf ops i ∨ dstOf ops j = none)
    (h0 : ∃ c, Wd c (fun _ => false) w.drew)
    (hstep : ∀ i o, ops[i]? = some o → ∀ c L a w, L i = false → (∀ e ∈ o.after, Region.binds .any e = true → L e.on = true) → a = frm ops a0 (val c) L ops.size → Wd c L w → DoesX ops Q Wd val i L c a w)
    (hend : ∀ c L w, (∀ i, i < ops.size → L i = true) → Wd c L w → Q .normal (frm ops a0 (val c) (fun _ => true) ops.size) w) : (Code.region id ops true).wp Try.prog Q a0 w := by
  refine region_inv (by kernel_rfl) (fun L a w => ∃ c, a = frm ops a0 (val c) L ops.size ∧ Wd c L w) hac ?_ ?_ ?_
  · obtain ⟨c, h0⟩ := h0
    refine ⟨c, ?_, h0⟩
    have : ∀ n, frm ops a0 (val c) (fun _ => false) n = a0 := by
      intro n
      induction n with
      | zero => rfl
      | succ n ih => simpa [frm] using ih
    exact (this _).symm
  · intro L a w i o ho hL hdep ⟨c, ha, hw⟩
    refine wpOp_mono ?_ (hstep i o ho c L a w hL hdep ha hw)
    rintro a' w' ⟨c', h1, rfl, hw'⟩
    refine ⟨c', ?_, hw'⟩
    rw [frm_upd a0 (val c') L i hL (fun j hj => hdis i j hj), if_pos (Array.getElem?_eq_some_iff.1 ho).1, ha, frm_congr h1]
  · intro L a w hall ⟨c, ha, hw⟩
    have : ∀ n, n ≤ ops.size → frm ops a0 (val c) L n = frm ops a0 (val c) (fun _ => true) n := by
      intro n
      induction n with
      | zero => intro _; rfl
      | succ n ih => intro h; simp only [frm]; rw [hall n (by omega), ih (by omega)]; simp
    rw [ha, this _ (Nat.le_refl _)]
    exact hend c L w hall hw
end Go.Proofs.Ytpelmacblglhoaa
