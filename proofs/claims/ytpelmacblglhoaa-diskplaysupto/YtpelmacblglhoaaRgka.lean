import Derived.Test.YtpelmacblglhoaaRgcr
import Derived.Test.YtpelmacblglhoaaZzas
import Derived.Test.YtpelmacblglhoaaZzak
namespace Go.Proofs.Ytpelmacblglhoaa
open Go.RowKit
theorem doesX_runw {C : Type} {ops : Array Oper} {Q : Exit → Act → World → Prop} {Wd : C → (Nat → Bool) → World → Prop} {val : C → Nat → Value} {i : Nat} {L : Nat → Bool} {c : C} {o : Oper} {a : Act} {w w' : World} (ho : ops[i]? = some o) (hw : Region.wanted o (yielded ops a.tmps) = true) (c' : C) (hv : ∀ j, L j = true → val c' j = val c j) (hW : Wd c' (upd L i) w')
    (hr : (execOp a.eval o).run Try.prog w = .ok (.value (val c' i)) w') : DoesX ops Q Wd val i L c a w := by
  have h := doesL_runw (Q := Q) (val := val c') (Wd := Wd c') ho hw hW hr
  unfold DoesL at h
  unfold DoesX
  refine wpOp_mono ?_ h
  rintro a' w2 ⟨rfl, h2⟩
  exact ⟨c', hv, rfl, h2⟩
theorem run_neqI (ρ : Operand → Value) (o : Oper) (t u : TypeId) (x y : Operand) (ho : o.op = .binOp .neq t x y u) (a : Int) (ha : ρ x = .int .i64 a) (hb : ρ y = .int .i64 a) (w : World) : (execOp ρ o).run Try.prog w = .ok (.value (.bool false)) w := by
  unfold execOp
  simp only [ho, ha, hb]
  simp [go_sem]
theorem run_neqS (ρ : Operand → Value) (o : Oper) (t u : TypeId) (x y : Operand) (ho : o.op = .binOp .neq t x y u) (a : List UInt8) (ha : ρ x = .string ⟨a.toArray⟩) (hb : ρ y = .string ⟨a.toArray⟩) (w : World) : (execOp ρ o).run Try.prog w = .ok (.value (.bool false)) w := by
  unfold execOp
  simp only [ho, ha, hb]
  simp [go_sem]
theorem run_neq69 (ρ : Operand → Value) (o : Oper) (x y : Operand) (ho : o.op = .binOp .neq 69 x y 69) (i : Int) (a : List UInt8) (ha : ρ x = .agg #[.int .i64 i, .string ⟨a.toArray⟩]) (hb : ρ y = .agg #[.int .i64 i, .string ⟨a.toArray⟩]) (w : World) : (execOp ρ o).run Try.prog w = .ok (.value (.bool false)) w := by
  unfold execOp
  simp only [ho, ha, hb]
  simp [go_sem]
theorem run_strsame (ρ : Operand → Value) (o : Oper) (t u : TypeId) (x y : Operand) (ho : o.op = .binOp .eql t x y u) (a : List UInt8) (ha : ρ x = .string ⟨a.toArray⟩) (hb : ρ y = .string ⟨a.toArray⟩) (w : World) : (execOp ρ o).run Try.prog w = .ok (.value (.bool true)) w := by
  rw [run_streq ρ o t u x y ho a a ha hb w]; simp
theorem run_ld69 (ρ : Operand → Value) (o : Oper) (x : Operand) (ho : o.op = .load 69 x) (g j : Nat) (i : Int) (a : List UInt8) (ha : ρ x = .pointer (some ⟨g, j, none⟩)) (w : World) (h0 : w.cell? ⟨g, j, none⟩ = some (.int .i64 i)) (h1 : w.cell? ⟨g, j + 1, none⟩ = some (.string ⟨a.toArray⟩)) : (execOp ρ o).run Try.prog w = .ok (.value (.agg #[.int .i64 i, .string ⟨a.toArray⟩])) w := by
  unfold execOp
  simp only [ho, ha]
  simp [Instr.loadAt, go_sem, h0, h1]
theorem run_build69 (ρ : Operand → Value) (o : Oper) (x y : Operand) (ho : o.op = .build 69 #[(0, x), (1, y)]) (i : Int) (a : List UInt8) (ha : ρ x = .int .i64 i) (hb : ρ y = .string ⟨a.toArray⟩) (w : World) : (execOp ρ o).run Try.prog w = .ok (.value (.agg #[.int .i64 i, .string ⟨a.toArray⟩])) w := by
  unfold execOp
  simp only [ho]
  simp [go_sem, ha, hb]
theorem run_ia43 (ρ : Operand → Value) (o : Oper) (x y : Operand) (ho : o.op = .indexAddr 43 x y) (g q n cap k : Nat) (hk : k < n) (hx : ρ x = .slice (some ⟨g, q, none⟩) n cap) (hy : ρ y = .int .i64 (k : Int)) (w : World) : (execOp ρ o).run Try.prog w = .ok (.value (.pointer (some ⟨g, q + k * 2, none⟩))) w := by
  unfold execOp
  simp only [ho, hx, hy]
  have h1 : (k : Int) < (n : Int) := by omega
  have u := Try.underlying43
  have z := Try.sizeOf69
  simp [go_sem, u, z, h1]
theorem run_mks (ρ : Operand → Value) (o : Oper) (t : TypeId) (x y : Operand) (ho : o.op = .makeSlice t x y) (a b : Value) (ha : ρ x = a) (hb : ρ y = b) (w w' : World) (r : Value) (hr : (Instr.makeSlice t a b).run Try.prog w = .ok r w') : (execOp ρ o).run Try.prog w = .ok (.value r) w' := by
  unfold execOp
  simp only [ho, ha, hb, Sem.run_bind, hr, Result.andThen_ok, Sem.run_pure]
theorem run_cnv (ρ : Operand → Value) (o : Oper) (s t : TypeId) (x : Operand) (ho : o.op = .convert s t x) (v r : Value) (hx : ρ x = v) (w : World) (hr : (convert s t v).run Try.prog w = .ok r w) : (execOp ρ o).run Try.prog w = .ok (.value r) w := by
  unfold execOp
  simp only [ho, hx, Sem.run_bind, hr, Result.andThen_ok, Sem.run_pure]
theorem run_cut2 (ρ : Operand → Value) (o : Oper) (x y z : Operand) (ho : o.op = .slice 9 x (some y) (some z) none) (s : List UInt8) (lo hi : Nat) (h1 : lo ≤ hi) (h2 : hi ≤ s.length) (hx : ρ x = .string ⟨s.toArray⟩) (hy : ρ y = .int .i64 (lo : Int)) (hz : ρ z = .int .i64 (hi : Int)) (w : World) : (execOp ρ o).run Try.prog w = .ok (.value (.string ⟨((s.drop lo).take (hi - lo)).toArray⟩)) w := by
  have hr := run_slice_string (P := Try.prog) w 9 ⟨s.toArray⟩ .i64 .i64 (lo : Int) (hi : Int) Try.underlying9 (by omega) (by omega) (by simp [ByteArray.size]; omega)
  have hr2 : (Instr.sliceAt 9 (.string ⟨s.toArray⟩) (some (.int .i64 (lo : Int))) (some (.int .i64 (hi : Int))) none).run Try.prog w = .ok (.string ((⟨s.toArray⟩ : ByteArray).extract (lo : Int).toNat (hi : Int).toNat)) w := by
    unfold Instr.sliceAt
    simp only [Sem.run_bind, run_underlying Try.underlying9, Result.andThen_ok]
    exact hr
  unfold execOp
  simp only [ho, hx, hy, hz, Option.map_some, Option.map_none, Sem.run_bind, Sem.run_pure, hr2, Result.andThen_ok, Int.toNat_natCast, extract_eq]
theorem run_len43 (ρ : Operand → Value) (o : Oper) (x : Operand) (ho : o.op = .call { callee := .builtin .len, args := #[x], argTypes := #[43] }) (p : Option Addr) (n c : Nat) (hx : ρ x = .slice p n c) (w : World) : (execOp ρ o).run Try.prog w = .ok (.value (.int .i64 (n : Int))) w := by
  unfold execOp
  simp only [ho]
  simp [resolve, invoke, builtin, hx, go_sem]
theorem run_len28 (ρ : Operand → Value) (o : Oper) (x : Operand) (ho : o.op = .call { callee := .builtin .len, args := #[x], argTypes := #[28] }) (p : Option Addr) (n c : Nat) (hx : ρ x = .slice p n c) (w : World) : (execOp ρ o).run Try.prog w = .ok (.value (.int .i64 (n : Int))) w := by
  unfold execOp
  simp only [ho]
  simp [resolve, invoke, builtin, hx, go_sem]
def rkaT : List (Op × Option Tmp × Option (Nat × Bool)) := [
  (.move (.tmp 3), some 38, none),
  (.binOp .neq 50 (.tmp 38) (.const (.int .i64 0)) 50, some 39, none),
  (.move (.tmp 39), some 40, none),
  (.move (.tmp 5), some 41, some (2, false)),
  (.binOp .neq 50 (.tmp 41) (.const (.int .i64 0)) 50, some 42, some (2, false)),
  (.pick (.tmp 40) (.const (.bool true)) (.tmp 42), some 43, none),
  (.move (.tmp 43), some 44, none),
  (.move (.tmp 4), some 45, some (6, false)),
  (.call { callee := .value (.func 20), args := #[(.const (.int .i64 5))], argTypes := #[3] }, some 46, some (6, false)),
  (.binOp .neq 9 (.tmp 45) (.tmp 46) 9, some 47, some (6, false)),
  (.pick (.tmp 44) (.const (.bool true)) (.tmp 47), some 48, none),
  (.move (.tmp 48), some 49, none),
  (.move (.tmp 1), some 50, some (11, false)),
  (.call { callee := .value (.func 23), args := #[(.tmp 50)], argTypes := #[37] }, some 51, some (11, false)),
  (.binOp .neq 3 (.tmp 51) (.const (.int .i64 8)) 3, some 52, some (11, false)),
  (.pick (.tmp 49) (.const (.bool true)) (.tmp 52), some 53, none),
  (.move (.tmp 53), some 54, none),
  (.move (.tmp 6), some 55, some (16, false)),
  (.call { callee := .builtin .len, args := #[(.tmp 55)], argTypes := #[43] }, some 56, some (16, false)),
  (.binOp .neq 3 (.tmp 56) (.const (.int .i64 1)) 3, some 57, some (16, false)),
  (.pick (.tmp 54) (.const (.bool true)) (.tmp 57), some 58, none),
  (.move (.tmp 58), some 59, none),
  (.move (.tmp 6), some 60, some (21, false)),
  (.indexAddr 43 (.tmp 60) (.const (.int .i64 0)), some 61, some (21, false)),
  (.load 69 (.tmp 61), some 62, some (21, false)),
  (.call { callee := .value (.func 20), args := #[(.const (.int .i64 5))], argTypes := #[3] }, some 63, some (21, false)),
  (.build 69 #[(0, (.const (.int .i64 2))), (1, (.tmp 63))], some 64, some (21, false)),
  (.binOp .neq 69 (.tmp 62) (.tmp 64) 69, some 65, some (21, false)),
  (.pick (.tmp 59) (.const (.bool true)) (.tmp 65), some 66, none),
  (.move (.tmp 66), some 67, none),
  (.move (.tmp 7), some 68, some (29, false)),
  (.binOp .neq 3 (.tmp 68) (.const (.int .i64 1)) 3, some 69, some (29, false)),
  (.pick (.tmp 67) (.const (.bool true)) (.tmp 69), some 70, none),
  (.move (.tmp 70), some 71, none),
  (.move (.tmp 8), some 72, some (33, false)),
  (.binOp .neq 50 (.tmp 72) (.const (.int .i64 0)) 50, some 73, some (33, false)),
  (.pick (.tmp 71) (.const (.bool true)) (.tmp 73), some 74, none),
  (.move (.tmp 74), some 75, none),
  (.move (.tmp 9), some 76, some (37, false)),
  (.call { callee := .builtin .len, args := #[(.tmp 76)], argTypes := #[28] }, some 77, some (37, false)),
  (.binOp .neq 3 (.tmp 77) (.const (.int .i64 8)) 3, some 78, some (37, false)),
  (.pick (.tmp 75) (.const (.bool true)) (.tmp 78), some 79, none)]
def rkaD : List (Nat × Nat) := [(1, 0), (2, 1), (3, 2), (4, 2), (4, 3), (5, 2), (5, 4), (6, 5), (7, 6), (8, 6), (9, 6), (9, 7), (9, 8), (10, 6), (10, 9), (11, 10), (12, 11), (13, 11), (13, 12), (14, 11), (14, 13), (15, 11), (15, 14), (16, 15), (17, 16), (18, 16), (18, 17), (19, 16), (19, 18), (20, 16), (20, 19), (21, 20), (22, 21), (23, 21), (23, 22), (24, 21), (24, 23), (25, 21), (26, 21), (26, 25), (27, 21), (27, 24), (27, 26), (28, 21), (28, 27), (29, 28), (30, 29), (31, 29), (31, 30), (32, 29), (32, 31), (33, 32), (34, 33), (35, 33), (35, 34), (36, 33), (36, 35), (37, 36), (38, 37), (39, 37), (39, 38), (40, 37), (40, 39), (41, 37), (41, 40)]
set_option maxHeartbeats 2000000 in
theorem rka {ops : Array Oper} {id : Nat} {Q : Exit → Act → World → Prop} (D gp cp gb cb : Nat) (bk : Bs) (htab : ops.toList.map (fun o => (o.op, o.dst, o.guard)) = rkaT) (hdep : deplB rkaD ops = true) (hac : acB ops = true)
    (a0 : Act) (w : World) (hsz : 80 ≤ a0.tmps.size) (o1 : a0.tmps[1]? = some (.pointer (some ⟨D, 0, none⟩))) (o3 : a0.tmps[3]? = some (.int .i64 (0 : Int))) (o4 : a0.tmps[4]? = some (S bk)) (o5 : a0.tmps[5]? = some (.int .i64 (0 : Int))) (o6 : a0.tmps[6]? = some (.slice (some ⟨gp, 0, none⟩) 1 cp)) (o7 : a0.tmps[7]? = some (.int .i64 (1 : Int))) (o8 : a0.tmps[8]? = some (.int .i64 (0 : Int))) (o9 : a0.tmps[9]? = some (.slice (some ⟨gb, 0, none⟩) 8 cb))
    (Wd : (Nat → Bool) → World → Prop) (h0 : Wd (fun _ => false) w.drew) (hpure : ∀ i, i ∉ ([8, 13, 25] : List Nat) → ∀ L W, Wd L W → Wd (upd L i) W)
    (i23 : 0 < 1)
    (c8 : ∀ L W, Wd L W → L 8 = false → Calls Try.prog 20 #[.int .i64 (5 : Int)] W fun e w' => e = .returned (S bk) ∧ Wd (upd L 8) w')
    (c13 : ∀ L W, Wd L W → L 13 = false → Calls Try.prog 23 #[.pointer (some ⟨D, 0, none⟩)] W fun e w' => e = .returned (.int .i64 (8 : Int)) ∧ Wd (upd L 13) w')
    (l24 : ∀ L W, Wd L W → W.cell? ⟨gp, 0 + 0 * 2, none⟩ = some (.int .i64 (2 : Int)) ∧ W.cell? ⟨gp, 0 + 0 * 2 + 1, none⟩ = some (S bk))
    (c25 : ∀ L W, Wd L W → L 25 = false → Calls Try.prog 20 #[.int .i64 (5 : Int)] W fun e w' => e = .returned (S bk) ∧ Wd (upd L 25) w')
    (hend : ∀ L W, (∀ i, i < 42 → L i = true) → Wd L W → Q .normal ((((((((((((((((((((((((((((((((((((((((((a0.put (some 38) (.int .i64 (0 : Int))).put (some 39) (.bool false)).put (some 40) (.bool false)).put (some 41) (.int .i64 (0 : Int))).put (some 42) (.bool false)).put (some 43) (.bool false)).put (some 44) (.bool false)).put (some 45) (S bk)).put (some 46) (S bk)).put (some 47) (.bool false)).put (some 48) (.bool false)).put (some 49) (.bool false)).put (some 50) (.pointer (some ⟨D, 0, none⟩))).put (some 51) (.int .i64 (8 : Int))).put (some 52) (.bool false)).put (some 53) (.bool false)).put (some 54) (.bool false)).put (some 55) (.slice (some ⟨gp, 0, none⟩) 1 cp)).put (some 56) (.int .i64 (1 : Int))).put (some 57) (.bool false)).put (some 58) (.bool false)).put (some 59) (.bool false)).put (some 60) (.slice (some ⟨gp, 0, none⟩) 1 cp)).put (some 61) (.pointer (some ⟨gp, 0 + 0 * 2, none⟩))).put (some 62) (.agg #[.int .i64 (2 : Int), S bk])).put (some 63) (S bk)).put (some 64) (.agg #[.int .i64 (2 : Int), S bk])).put (some 65) (.bool false)).put (some 66) (.bool false)).put (some 67) (.bool false)).put (some 68) (.int .i64 (1 : Int))).put (some 69) (.bool false)).put (some 70) (.bool false)).put (some 71) (.bool false)).put (some 72) (.int .i64 (0 : Int))).put (some 73) (.bool false)).put (some 74) (.bool false)).put (some 75) (.bool false)).put (some 76) (.slice (some ⟨gb, 0, none⟩) 8 cb)).put (some 77) (.int .i64 (8 : Int))).put (some 78) (.bool false)).put (some 79) (.bool false)) W) : (Code.region id ops true).wp Try.prog Q a0 w := by
  let val : Nat → Value := fun i => match i with
    | 0 => (.int .i64 (0 : Int))
    | 1 => (.bool false)
    | 2 => (.bool false)
    | 3 => (.int .i64 (0 : Int))
    | 4 => (.bool false)
    | 5 => (.bool false)
    | 6 => (.bool false)
    | 7 => (S bk)
    | 8 => (S bk)
    | 9 => (.bool false)
    | 10 => (.bool false)
    | 11 => (.bool false)
    | 12 => (.pointer (some ⟨D, 0, none⟩))
    | 13 => (.int .i64 (8 : Int))
    | 14 => (.bool false)
    | 15 => (.bool false)
    | 16 => (.bool false)
    | 17 => (.slice (some ⟨gp, 0, none⟩) 1 cp)
    | 18 => (.int .i64 (1 : Int))
    | 19 => (.bool false)
    | 20 => (.bool false)
    | 21 => (.bool false)
    | 22 => (.slice (some ⟨gp, 0, none⟩) 1 cp)
    | 23 => (.pointer (some ⟨gp, 0 + 0 * 2, none⟩))
    | 24 => (.agg #[.int .i64 (2 : Int), S bk])
    | 25 => (S bk)
    | 26 => (.agg #[.int .i64 (2 : Int), S bk])
    | 27 => (.bool false)
    | 28 => (.bool false)
    | 29 => (.bool false)
    | 30 => (.int .i64 (1 : Int))
    | 31 => (.bool false)
    | 32 => (.bool false)
    | 33 => (.bool false)
    | 34 => (.int .i64 (0 : Int))
    | 35 => (.bool false)
    | 36 => (.bool false)
    | 37 => (.bool false)
    | 38 => (.slice (some ⟨gb, 0, none⟩) 8 cb)
    | 39 => (.int .i64 (8 : Int))
    | 40 => (.bool false)
    | 41 => (.bool false)
    | _ => undef
  have hosz : ops.size = 42 := by
    have := congrArg List.length htab
    simpa [rkaT] using this
  have hds : ∀ i s, (rkaT[i]?).bind (·.2.1) = some s → dstOf ops i = some s := fun i s hi => by rw [tab_dst htab, hi]
  have hdisB : disL rkaT = true := by rfl
  have hdis := disL_of htab hdisB
  have hold : ∀ s, rkaT.all (fun x => !(x.2.1 == some s)) = true → (List.range ops.size).all (fun j => !(dstOf ops j == some s)) = true := fun s h => holdL htab s h
  refine region_detL val Wd (hac_of hac) hdis h0 ?_ ?_
  rotate_left
  · intro L W hall hW
    have := hend L W (by rw [← hosz]; exact hall) hW
    have e : frm ops a0 val (fun _ => true) ops.size = ((((((((((((((((((((((((((((((((((((((((((a0.put (some 38) (.int .i64 (0 : Int))).put (some 39) (.bool false)).put (some 40) (.bool false)).put (some 41) (.int .i64 (0 : Int))).put (some 42) (.bool false)).put (some 43) (.bool false)).put (some 44) (.bool false)).put (some 45) (S bk)).put (some 46) (S bk)).put (some 47) (.bool false)).put (some 48) (.bool false)).put (some 49) (.bool false)).put (some 50) (.pointer (some ⟨D, 0, none⟩))).put (some 51) (.int .i64 (8 : Int))).put (some 52) (.bool false)).put (some 53) (.bool false)).put (some 54) (.bool false)).put (some 55) (.slice (some ⟨gp, 0, none⟩) 1 cp)).put (some 56) (.int .i64 (1 : Int))).put (some 57) (.bool false)).put (some 58) (.bool false)).put (some 59) (.bool false)).put (some 60) (.slice (some ⟨gp, 0, none⟩) 1 cp)).put (some 61) (.pointer (some ⟨gp, 0 + 0 * 2, none⟩))).put (some 62) (.agg #[.int .i64 (2 : Int), S bk])).put (some 63) (S bk)).put (some 64) (.agg #[.int .i64 (2 : Int), S bk])).put (some 65) (.bool false)).put (some 66) (.bool false)).put (some 67) (.bool false)).put (some 68) (.int .i64 (1 : Int))).put (some 69) (.bool false)).put (some 70) (.bool false)).put (some 71) (.bool false)).put (some 72) (.int .i64 (0 : Int))).put (some 73) (.bool false)).put (some 74) (.bool false)).put (some 75) (.bool false)).put (some 76) (.slice (some ⟨gb, 0, none⟩) 8 cb)).put (some 77) (.int .i64 (8 : Int))).put (some 78) (.bool false)).put (some 79) (.bool false)) := by
      rw [hosz]
      simp only [frm, if_true]
      rw [tab_dst htab 0, tab_dst htab 1, tab_dst htab 2, tab_dst htab 3, tab_dst htab 4, tab_dst htab 5, tab_dst htab 6, tab_dst htab 7, tab_dst htab 8, tab_dst htab 9, tab_dst htab 10, tab_dst htab 11, tab_dst htab 12, tab_dst htab 13, tab_dst htab 14, tab_dst htab 15, tab_dst htab 16, tab_dst htab 17, tab_dst htab 18, tab_dst htab 19, tab_dst htab 20, tab_dst htab 21, tab_dst htab 22, tab_dst htab 23, tab_dst htab 24, tab_dst htab 25, tab_dst htab 26, tab_dst htab 27, tab_dst htab 28, tab_dst htab 29, tab_dst htab 30, tab_dst htab 31, tab_dst htab 32, tab_dst htab 33, tab_dst htab 34, tab_dst htab 35, tab_dst htab 36, tab_dst htab 37, tab_dst htab 38, tab_dst htab 39, tab_dst htab 40, tab_dst htab 41]
      rfl
    rw [e]
    exact this
  intro i o ho L a w' hL hd ha hW
  have hi : i < 42 := by rw [← hosz]; exact (Array.getElem?_eq_some_iff.1 ho).1
  match i, ho, hL, hi with
  | 0, ho, hL, _ =>
    obtain ⟨hop, hdst, hgd⟩ := tab_at htab ho (show rkaT[0]? = _ from rfl)
    simp only at hop hgd
    have h0 := frm_old ha 3 _ (hold 3 rfl) o3
    exact doesL_run ho (wanted_none hgd) (hpure 0 (by decide) L w' hW) (by rw [run_move _ _ _ hop]; exact congrArg (fun v => Result.ok (Next.value v) w') (eval_of h0))
  | 1, ho, hL, _ =>
    obtain ⟨hop, hdst, hgd⟩ := tab_at htab ho (show rkaT[1]? = _ from rfl)
    simp only at hop hgd
    have h0 := frm_at hdis ha 0 38 (hds 0 38 rfl) (by omega) (depl_of hdep 1 0 (by decide) ho hd)
    exact doesL_run ho (wanted_none hgd) (hpure 1 (by decide) L w' hW) (run_neqI _ _ _ _ _ _ hop _ (eval_of h0) rfl _)
  | 2, ho, hL, _ =>
    obtain ⟨hop, hdst, hgd⟩ := tab_at htab ho (show rkaT[2]? = _ from rfl)
    simp only at hop hgd
    have h0 := frm_at hdis ha 1 39 (hds 1 39 rfl) (by omega) (depl_of hdep 2 1 (by decide) ho hd)
    exact doesL_run ho (wanted_none hgd) (hpure 2 (by decide) L w' hW) (by rw [run_move _ _ _ hop]; exact congrArg (fun v => Result.ok (Next.value v) w') (eval_of h0))
  | 3, ho, hL, _ =>
    obtain ⟨hop, hdst, hgd⟩ := tab_at htab ho (show rkaT[3]? = _ from rfl)
    simp only at hop hgd
    have hg := frm_at hdis ha 2 40 (hds 2 40 rfl) (by omega) (depl_of hdep 3 2 (by decide) ho hd)
    have h0 := frm_old ha 5 _ (hold 5 rfl) o5
    exact doesL_run ho (wanted_at (b := false) hgd (hds 2 40 rfl) hg) (hpure 3 (by decide) L w' hW) (by rw [run_move _ _ _ hop]; exact congrArg (fun v => Result.ok (Next.value v) w') (eval_of h0))
  | 4, ho, hL, _ =>
    obtain ⟨hop, hdst, hgd⟩ := tab_at htab ho (show rkaT[4]? = _ from rfl)
    simp only at hop hgd
    have hg := frm_at hdis ha 2 40 (hds 2 40 rfl) (by omega) (depl_of hdep 4 2 (by decide) ho hd)
    have h0 := frm_at hdis ha 3 41 (hds 3 41 rfl) (by omega) (depl_of hdep 4 3 (by decide) ho hd)
    exact doesL_run ho (wanted_at (b := false) hgd (hds 2 40 rfl) hg) (hpure 4 (by decide) L w' hW) (run_neqI _ _ _ _ _ _ hop _ (eval_of h0) rfl _)
  | 5, ho, hL, _ =>
    obtain ⟨hop, hdst, hgd⟩ := tab_at htab ho (show rkaT[5]? = _ from rfl)
    simp only at hop hgd
    have h0 := frm_at hdis ha 2 40 (hds 2 40 rfl) (by omega) (depl_of hdep 5 2 (by decide) ho hd)
    have h2 := frm_at hdis ha 4 42 (hds 4 42 rfl) (by omega) (depl_of hdep 5 4 (by decide) ho hd)
    exact doesL_run ho (wanted_none hgd) (hpure 5 (by decide) L w' hW) (by rw [run_pick _ _ _ _ _ hop false (eval_of h0)]; exact congrArg (fun v => Result.ok (Next.value v) w') (eval_of h2))
  | 6, ho, hL, _ =>
    obtain ⟨hop, hdst, hgd⟩ := tab_at htab ho (show rkaT[6]? = _ from rfl)
    simp only at hop hgd
    have h0 := frm_at hdis ha 5 43 (hds 5 43 rfl) (by omega) (depl_of hdep 6 5 (by decide) ho hd)
    exact doesL_run ho (wanted_none hgd) (hpure 6 (by decide) L w' hW) (by rw [run_move _ _ _ hop]; exact congrArg (fun v => Result.ok (Next.value v) w') (eval_of h0))
  | 7, ho, hL, _ =>
    obtain ⟨hop, hdst, hgd⟩ := tab_at htab ho (show rkaT[7]? = _ from rfl)
    simp only at hop hgd
    have hg := frm_at hdis ha 6 44 (hds 6 44 rfl) (by omega) (depl_of hdep 7 6 (by decide) ho hd)
    have h0 := frm_old ha 4 _ (hold 4 rfl) o4
    exact doesL_run ho (wanted_at (b := false) hgd (hds 6 44 rfl) hg) (hpure 7 (by decide) L w' hW) (by rw [run_move _ _ _ hop]; exact congrArg (fun v => Result.ok (Next.value v) w') (eval_of h0))
  | 8, ho, hL, _ =>
    obtain ⟨hop, hdst, hgd⟩ := tab_at htab ho (show rkaT[8]? = _ from rfl)
    simp only at hop hgd
    have hg := frm_at hdis ha 6 44 (hds 6 44 rfl) (by omega) (depl_of hdep 8 6 (by decide) ho hd)
    refine doesL_call ho (wanted_at (b := false) hgd (hds 6 44 rfl) hg) 20 #[.int .i64 (5 : Int)] ?_ (c8 L w' hW hL)
    rw [run_calls Try.func20 (by kernel_rfl) rfl _ _ _ _ hop rfl]
    simp only [List.map_toArray, List.map_cons, List.map_nil, ]
    all_goals rfl
  | 9, ho, hL, _ =>
    obtain ⟨hop, hdst, hgd⟩ := tab_at htab ho (show rkaT[9]? = _ from rfl)
    simp only at hop hgd
    have hg := frm_at hdis ha 6 44 (hds 6 44 rfl) (by omega) (depl_of hdep 9 6 (by decide) ho hd)
    have h0 := frm_at hdis ha 7 45 (hds 7 45 rfl) (by omega) (depl_of hdep 9 7 (by decide) ho hd)
    have h1 := frm_at hdis ha 8 46 (hds 8 46 rfl) (by omega) (depl_of hdep 9 8 (by decide) ho hd)
    exact doesL_run ho (wanted_at (b := false) hgd (hds 6 44 rfl) hg) (hpure 9 (by decide) L w' hW) (run_neqS _ _ _ _ _ _ hop _ (eval_of h0) (eval_of h1) _)
  | 10, ho, hL, _ =>
    obtain ⟨hop, hdst, hgd⟩ := tab_at htab ho (show rkaT[10]? = _ from rfl)
    simp only at hop hgd
    have h0 := frm_at hdis ha 6 44 (hds 6 44 rfl) (by omega) (depl_of hdep 10 6 (by decide) ho hd)
    have h2 := frm_at hdis ha 9 47 (hds 9 47 rfl) (by omega) (depl_of hdep 10 9 (by decide) ho hd)
    exact doesL_run ho (wanted_none hgd) (hpure 10 (by decide) L w' hW) (by rw [run_pick _ _ _ _ _ hop false (eval_of h0)]; exact congrArg (fun v => Result.ok (Next.value v) w') (eval_of h2))
  | 11, ho, hL, _ =>
    obtain ⟨hop, hdst, hgd⟩ := tab_at htab ho (show rkaT[11]? = _ from rfl)
    simp only at hop hgd
    have h0 := frm_at hdis ha 10 48 (hds 10 48 rfl) (by omega) (depl_of hdep 11 10 (by decide) ho hd)
    exact doesL_run ho (wanted_none hgd) (hpure 11 (by decide) L w' hW) (by rw [run_move _ _ _ hop]; exact congrArg (fun v => Result.ok (Next.value v) w') (eval_of h0))
  | 12, ho, hL, _ =>
    obtain ⟨hop, hdst, hgd⟩ := tab_at htab ho (show rkaT[12]? = _ from rfl)
    simp only at hop hgd
    have hg := frm_at hdis ha 11 49 (hds 11 49 rfl) (by omega) (depl_of hdep 12 11 (by decide) ho hd)
    have h0 := frm_old ha 1 _ (hold 1 rfl) o1
    exact doesL_run ho (wanted_at (b := false) hgd (hds 11 49 rfl) hg) (hpure 12 (by decide) L w' hW) (by rw [run_move _ _ _ hop]; exact congrArg (fun v => Result.ok (Next.value v) w') (eval_of h0))
  | 13, ho, hL, _ =>
    obtain ⟨hop, hdst, hgd⟩ := tab_at htab ho (show rkaT[13]? = _ from rfl)
    simp only at hop hgd
    have hg := frm_at hdis ha 11 49 (hds 11 49 rfl) (by omega) (depl_of hdep 13 11 (by decide) ho hd)
    have h0 := frm_at hdis ha 12 50 (hds 12 50 rfl) (by omega) (depl_of hdep 13 12 (by decide) ho hd)
    refine doesL_call ho (wanted_at (b := false) hgd (hds 11 49 rfl) hg) 23 #[.pointer (some ⟨D, 0, none⟩)] ?_ (c13 L w' hW hL)
    rw [run_calls Try.func23 (by kernel_rfl) rfl _ _ _ _ hop rfl]
    simp only [List.map_toArray, List.map_cons, List.map_nil, eval_of h0]
    all_goals rfl
  | 14, ho, hL, _ =>
    obtain ⟨hop, hdst, hgd⟩ := tab_at htab ho (show rkaT[14]? = _ from rfl)
    simp only at hop hgd
    have hg := frm_at hdis ha 11 49 (hds 11 49 rfl) (by omega) (depl_of hdep 14 11 (by decide) ho hd)
    have h0 := frm_at hdis ha 13 51 (hds 13 51 rfl) (by omega) (depl_of hdep 14 13 (by decide) ho hd)
    exact doesL_run ho (wanted_at (b := false) hgd (hds 11 49 rfl) hg) (hpure 14 (by decide) L w' hW) (run_neqI _ _ _ _ _ _ hop _ (eval_of h0) rfl _)
  | 15, ho, hL, _ =>
    obtain ⟨hop, hdst, hgd⟩ := tab_at htab ho (show rkaT[15]? = _ from rfl)
    simp only at hop hgd
    have h0 := frm_at hdis ha 11 49 (hds 11 49 rfl) (by omega) (depl_of hdep 15 11 (by decide) ho hd)
    have h2 := frm_at hdis ha 14 52 (hds 14 52 rfl) (by omega) (depl_of hdep 15 14 (by decide) ho hd)
    exact doesL_run ho (wanted_none hgd) (hpure 15 (by decide) L w' hW) (by rw [run_pick _ _ _ _ _ hop false (eval_of h0)]; exact congrArg (fun v => Result.ok (Next.value v) w') (eval_of h2))
  | 16, ho, hL, _ =>
    obtain ⟨hop, hdst, hgd⟩ := tab_at htab ho (show rkaT[16]? = _ from rfl)
    simp only at hop hgd
    have h0 := frm_at hdis ha 15 53 (hds 15 53 rfl) (by omega) (depl_of hdep 16 15 (by decide) ho hd)
    exact doesL_run ho (wanted_none hgd) (hpure 16 (by decide) L w' hW) (by rw [run_move _ _ _ hop]; exact congrArg (fun v => Result.ok (Next.value v) w') (eval_of h0))
  | 17, ho, hL, _ =>
    obtain ⟨hop, hdst, hgd⟩ := tab_at htab ho (show rkaT[17]? = _ from rfl)
    simp only at hop hgd
    have hg := frm_at hdis ha 16 54 (hds 16 54 rfl) (by omega) (depl_of hdep 17 16 (by decide) ho hd)
    have h0 := frm_old ha 6 _ (hold 6 rfl) o6
    exact doesL_run ho (wanted_at (b := false) hgd (hds 16 54 rfl) hg) (hpure 17 (by decide) L w' hW) (by rw [run_move _ _ _ hop]; exact congrArg (fun v => Result.ok (Next.value v) w') (eval_of h0))
  | 18, ho, hL, _ =>
    obtain ⟨hop, hdst, hgd⟩ := tab_at htab ho (show rkaT[18]? = _ from rfl)
    simp only at hop hgd
    have hg := frm_at hdis ha 16 54 (hds 16 54 rfl) (by omega) (depl_of hdep 18 16 (by decide) ho hd)
    have h0 := frm_at hdis ha 17 55 (hds 17 55 rfl) (by omega) (depl_of hdep 18 17 (by decide) ho hd)
    exact doesL_run ho (wanted_at (b := false) hgd (hds 16 54 rfl) hg) (hpure 18 (by decide) L w' hW) (run_len43 _ _ _ hop _ _ _ (eval_of h0) _)
  | 19, ho, hL, _ =>
    obtain ⟨hop, hdst, hgd⟩ := tab_at htab ho (show rkaT[19]? = _ from rfl)
    simp only at hop hgd
    have hg := frm_at hdis ha 16 54 (hds 16 54 rfl) (by omega) (depl_of hdep 19 16 (by decide) ho hd)
    have h0 := frm_at hdis ha 18 56 (hds 18 56 rfl) (by omega) (depl_of hdep 19 18 (by decide) ho hd)
    exact doesL_run ho (wanted_at (b := false) hgd (hds 16 54 rfl) hg) (hpure 19 (by decide) L w' hW) (run_neqI _ _ _ _ _ _ hop _ (eval_of h0) rfl _)
  | 20, ho, hL, _ =>
    obtain ⟨hop, hdst, hgd⟩ := tab_at htab ho (show rkaT[20]? = _ from rfl)
    simp only at hop hgd
    have h0 := frm_at hdis ha 16 54 (hds 16 54 rfl) (by omega) (depl_of hdep 20 16 (by decide) ho hd)
    have h2 := frm_at hdis ha 19 57 (hds 19 57 rfl) (by omega) (depl_of hdep 20 19 (by decide) ho hd)
    exact doesL_run ho (wanted_none hgd) (hpure 20 (by decide) L w' hW) (by rw [run_pick _ _ _ _ _ hop false (eval_of h0)]; exact congrArg (fun v => Result.ok (Next.value v) w') (eval_of h2))
  | 21, ho, hL, _ =>
    obtain ⟨hop, hdst, hgd⟩ := tab_at htab ho (show rkaT[21]? = _ from rfl)
    simp only at hop hgd
    have h0 := frm_at hdis ha 20 58 (hds 20 58 rfl) (by omega) (depl_of hdep 21 20 (by decide) ho hd)
    exact doesL_run ho (wanted_none hgd) (hpure 21 (by decide) L w' hW) (by rw [run_move _ _ _ hop]; exact congrArg (fun v => Result.ok (Next.value v) w') (eval_of h0))
  | 22, ho, hL, _ =>
    obtain ⟨hop, hdst, hgd⟩ := tab_at htab ho (show rkaT[22]? = _ from rfl)
    simp only at hop hgd
    have hg := frm_at hdis ha 21 59 (hds 21 59 rfl) (by omega) (depl_of hdep 22 21 (by decide) ho hd)
    have h0 := frm_old ha 6 _ (hold 6 rfl) o6
    exact doesL_run ho (wanted_at (b := false) hgd (hds 21 59 rfl) hg) (hpure 22 (by decide) L w' hW) (by rw [run_move _ _ _ hop]; exact congrArg (fun v => Result.ok (Next.value v) w') (eval_of h0))
  | 23, ho, hL, _ =>
    obtain ⟨hop, hdst, hgd⟩ := tab_at htab ho (show rkaT[23]? = _ from rfl)
    simp only at hop hgd
    have hg := frm_at hdis ha 21 59 (hds 21 59 rfl) (by omega) (depl_of hdep 23 21 (by decide) ho hd)
    have h0 := frm_at hdis ha 22 60 (hds 22 60 rfl) (by omega) (depl_of hdep 23 22 (by decide) ho hd)
    exact doesL_run ho (wanted_at (b := false) hgd (hds 21 59 rfl) hg) (hpure 23 (by decide) L w' hW) (run_ia43 _ _ _ _ hop _ _ _ _ 0 i23 (eval_of h0) rfl _)
  | 24, ho, hL, _ =>
    obtain ⟨hop, hdst, hgd⟩ := tab_at htab ho (show rkaT[24]? = _ from rfl)
    simp only at hop hgd
    have hg := frm_at hdis ha 21 59 (hds 21 59 rfl) (by omega) (depl_of hdep 24 21 (by decide) ho hd)
    have h0 := frm_at hdis ha 23 61 (hds 23 61 rfl) (by omega) (depl_of hdep 24 23 (by decide) ho hd)
    exact doesL_run ho (wanted_at (b := false) hgd (hds 21 59 rfl) hg) (hpure 24 (by decide) L w' hW) (run_ld69 _ _ _ hop _ _ _ _ (eval_of h0) _ (l24 L w' hW).1 (l24 L w' hW).2)
  | 25, ho, hL, _ =>
    obtain ⟨hop, hdst, hgd⟩ := tab_at htab ho (show rkaT[25]? = _ from rfl)
    simp only at hop hgd
    have hg := frm_at hdis ha 21 59 (hds 21 59 rfl) (by omega) (depl_of hdep 25 21 (by decide) ho hd)
    refine doesL_call ho (wanted_at (b := false) hgd (hds 21 59 rfl) hg) 20 #[.int .i64 (5 : Int)] ?_ (c25 L w' hW hL)
    rw [run_calls Try.func20 (by kernel_rfl) rfl _ _ _ _ hop rfl]
    simp only [List.map_toArray, List.map_cons, List.map_nil, ]
    all_goals rfl
  | 26, ho, hL, _ =>
    obtain ⟨hop, hdst, hgd⟩ := tab_at htab ho (show rkaT[26]? = _ from rfl)
    simp only at hop hgd
    have hg := frm_at hdis ha 21 59 (hds 21 59 rfl) (by omega) (depl_of hdep 26 21 (by decide) ho hd)
    have h1 := frm_at hdis ha 25 63 (hds 25 63 rfl) (by omega) (depl_of hdep 26 25 (by decide) ho hd)
    exact doesL_run ho (wanted_at (b := false) hgd (hds 21 59 rfl) hg) (hpure 26 (by decide) L w' hW) (run_build69 _ _ _ _ hop (2 : Int) bk rfl (eval_of h1) _)
  | 27, ho, hL, _ =>
    obtain ⟨hop, hdst, hgd⟩ := tab_at htab ho (show rkaT[27]? = _ from rfl)
    simp only at hop hgd
    have hg := frm_at hdis ha 21 59 (hds 21 59 rfl) (by omega) (depl_of hdep 27 21 (by decide) ho hd)
    have h0 := frm_at hdis ha 24 62 (hds 24 62 rfl) (by omega) (depl_of hdep 27 24 (by decide) ho hd)
    have h1 := frm_at hdis ha 26 64 (hds 26 64 rfl) (by omega) (depl_of hdep 27 26 (by decide) ho hd)
    exact doesL_run ho (wanted_at (b := false) hgd (hds 21 59 rfl) hg) (hpure 27 (by decide) L w' hW) (run_neq69 _ _ _ _ hop _ _ (eval_of h0) (eval_of h1) _)
  | 28, ho, hL, _ =>
    obtain ⟨hop, hdst, hgd⟩ := tab_at htab ho (show rkaT[28]? = _ from rfl)
    simp only at hop hgd
    have h0 := frm_at hdis ha 21 59 (hds 21 59 rfl) (by omega) (depl_of hdep 28 21 (by decide) ho hd)
    have h2 := frm_at hdis ha 27 65 (hds 27 65 rfl) (by omega) (depl_of hdep 28 27 (by decide) ho hd)
    exact doesL_run ho (wanted_none hgd) (hpure 28 (by decide) L w' hW) (by rw [run_pick _ _ _ _ _ hop false (eval_of h0)]; exact congrArg (fun v => Result.ok (Next.value v) w') (eval_of h2))
  | 29, ho, hL, _ =>
    obtain ⟨hop, hdst, hgd⟩ := tab_at htab ho (show rkaT[29]? = _ from rfl)
    simp only at hop hgd
    have h0 := frm_at hdis ha 28 66 (hds 28 66 rfl) (by omega) (depl_of hdep 29 28 (by decide) ho hd)
    exact doesL_run ho (wanted_none hgd) (hpure 29 (by decide) L w' hW) (by rw [run_move _ _ _ hop]; exact congrArg (fun v => Result.ok (Next.value v) w') (eval_of h0))
  | 30, ho, hL, _ =>
    obtain ⟨hop, hdst, hgd⟩ := tab_at htab ho (show rkaT[30]? = _ from rfl)
    simp only at hop hgd
    have hg := frm_at hdis ha 29 67 (hds 29 67 rfl) (by omega) (depl_of hdep 30 29 (by decide) ho hd)
    have h0 := frm_old ha 7 _ (hold 7 rfl) o7
    exact doesL_run ho (wanted_at (b := false) hgd (hds 29 67 rfl) hg) (hpure 30 (by decide) L w' hW) (by rw [run_move _ _ _ hop]; exact congrArg (fun v => Result.ok (Next.value v) w') (eval_of h0))
  | 31, ho, hL, _ =>
    obtain ⟨hop, hdst, hgd⟩ := tab_at htab ho (show rkaT[31]? = _ from rfl)
    simp only at hop hgd
    have hg := frm_at hdis ha 29 67 (hds 29 67 rfl) (by omega) (depl_of hdep 31 29 (by decide) ho hd)
    have h0 := frm_at hdis ha 30 68 (hds 30 68 rfl) (by omega) (depl_of hdep 31 30 (by decide) ho hd)
    exact doesL_run ho (wanted_at (b := false) hgd (hds 29 67 rfl) hg) (hpure 31 (by decide) L w' hW) (run_neqI _ _ _ _ _ _ hop _ (eval_of h0) rfl _)
  | 32, ho, hL, _ =>
    obtain ⟨hop, hdst, hgd⟩ := tab_at htab ho (show rkaT[32]? = _ from rfl)
    simp only at hop hgd
    have h0 := frm_at hdis ha 29 67 (hds 29 67 rfl) (by omega) (depl_of hdep 32 29 (by decide) ho hd)
    have h2 := frm_at hdis ha 31 69 (hds 31 69 rfl) (by omega) (depl_of hdep 32 31 (by decide) ho hd)
    exact doesL_run ho (wanted_none hgd) (hpure 32 (by decide) L w' hW) (by rw [run_pick _ _ _ _ _ hop false (eval_of h0)]; exact congrArg (fun v => Result.ok (Next.value v) w') (eval_of h2))
  | 33, ho, hL, _ =>
    obtain ⟨hop, hdst, hgd⟩ := tab_at htab ho (show rkaT[33]? = _ from rfl)
    simp only at hop hgd
    have h0 := frm_at hdis ha 32 70 (hds 32 70 rfl) (by omega) (depl_of hdep 33 32 (by decide) ho hd)
    exact doesL_run ho (wanted_none hgd) (hpure 33 (by decide) L w' hW) (by rw [run_move _ _ _ hop]; exact congrArg (fun v => Result.ok (Next.value v) w') (eval_of h0))
  | 34, ho, hL, _ =>
    obtain ⟨hop, hdst, hgd⟩ := tab_at htab ho (show rkaT[34]? = _ from rfl)
    simp only at hop hgd
    have hg := frm_at hdis ha 33 71 (hds 33 71 rfl) (by omega) (depl_of hdep 34 33 (by decide) ho hd)
    have h0 := frm_old ha 8 _ (hold 8 rfl) o8
    exact doesL_run ho (wanted_at (b := false) hgd (hds 33 71 rfl) hg) (hpure 34 (by decide) L w' hW) (by rw [run_move _ _ _ hop]; exact congrArg (fun v => Result.ok (Next.value v) w') (eval_of h0))
  | 35, ho, hL, _ =>
    obtain ⟨hop, hdst, hgd⟩ := tab_at htab ho (show rkaT[35]? = _ from rfl)
    simp only at hop hgd
    have hg := frm_at hdis ha 33 71 (hds 33 71 rfl) (by omega) (depl_of hdep 35 33 (by decide) ho hd)
    have h0 := frm_at hdis ha 34 72 (hds 34 72 rfl) (by omega) (depl_of hdep 35 34 (by decide) ho hd)
    exact doesL_run ho (wanted_at (b := false) hgd (hds 33 71 rfl) hg) (hpure 35 (by decide) L w' hW) (run_neqI _ _ _ _ _ _ hop _ (eval_of h0) rfl _)
  | 36, ho, hL, _ =>
    obtain ⟨hop, hdst, hgd⟩ := tab_at htab ho (show rkaT[36]? = _ from rfl)
    simp only at hop hgd
    have h0 := frm_at hdis ha 33 71 (hds 33 71 rfl) (by omega) (depl_of hdep 36 33 (by decide) ho hd)
    have h2 := frm_at hdis ha 35 73 (hds 35 73 rfl) (by omega) (depl_of hdep 36 35 (by decide) ho hd)
    exact doesL_run ho (wanted_none hgd) (hpure 36 (by decide) L w' hW) (by rw [run_pick _ _ _ _ _ hop false (eval_of h0)]; exact congrArg (fun v => Result.ok (Next.value v) w') (eval_of h2))
  | 37, ho, hL, _ =>
    obtain ⟨hop, hdst, hgd⟩ := tab_at htab ho (show rkaT[37]? = _ from rfl)
    simp only at hop hgd
    have h0 := frm_at hdis ha 36 74 (hds 36 74 rfl) (by omega) (depl_of hdep 37 36 (by decide) ho hd)
    exact doesL_run ho (wanted_none hgd) (hpure 37 (by decide) L w' hW) (by rw [run_move _ _ _ hop]; exact congrArg (fun v => Result.ok (Next.value v) w') (eval_of h0))
  | 38, ho, hL, _ =>
    obtain ⟨hop, hdst, hgd⟩ := tab_at htab ho (show rkaT[38]? = _ from rfl)
    simp only at hop hgd
    have hg := frm_at hdis ha 37 75 (hds 37 75 rfl) (by omega) (depl_of hdep 38 37 (by decide) ho hd)
    have h0 := frm_old ha 9 _ (hold 9 rfl) o9
    exact doesL_run ho (wanted_at (b := false) hgd (hds 37 75 rfl) hg) (hpure 38 (by decide) L w' hW) (by rw [run_move _ _ _ hop]; exact congrArg (fun v => Result.ok (Next.value v) w') (eval_of h0))
  | 39, ho, hL, _ =>
    obtain ⟨hop, hdst, hgd⟩ := tab_at htab ho (show rkaT[39]? = _ from rfl)
    simp only at hop hgd
    have hg := frm_at hdis ha 37 75 (hds 37 75 rfl) (by omega) (depl_of hdep 39 37 (by decide) ho hd)
    have h0 := frm_at hdis ha 38 76 (hds 38 76 rfl) (by omega) (depl_of hdep 39 38 (by decide) ho hd)
    exact doesL_run ho (wanted_at (b := false) hgd (hds 37 75 rfl) hg) (hpure 39 (by decide) L w' hW) (run_len28 _ _ _ hop _ _ _ (eval_of h0) _)
  | 40, ho, hL, _ =>
    obtain ⟨hop, hdst, hgd⟩ := tab_at htab ho (show rkaT[40]? = _ from rfl)
    simp only at hop hgd
    have hg := frm_at hdis ha 37 75 (hds 37 75 rfl) (by omega) (depl_of hdep 40 37 (by decide) ho hd)
    have h0 := frm_at hdis ha 39 77 (hds 39 77 rfl) (by omega) (depl_of hdep 40 39 (by decide) ho hd)
    exact doesL_run ho (wanted_at (b := false) hgd (hds 37 75 rfl) hg) (hpure 40 (by decide) L w' hW) (run_neqI _ _ _ _ _ _ hop _ (eval_of h0) rfl _)
  | 41, ho, hL, _ =>
    obtain ⟨hop, hdst, hgd⟩ := tab_at htab ho (show rkaT[41]? = _ from rfl)
    simp only at hop hgd
    have h0 := frm_at hdis ha 37 75 (hds 37 75 rfl) (by omega) (depl_of hdep 41 37 (by decide) ho hd)
    have h2 := frm_at hdis ha 40 78 (hds 40 78 rfl) (by omega) (depl_of hdep 41 40 (by decide) ho hd)
    exact doesL_run ho (wanted_none hgd) (hpure 41 (by decide) L w' hW) (by rw [run_pick _ _ _ _ _ hop false (eval_of h0)]; exact congrArg (fun v => Result.ok (Next.value v) w') (eval_of h2))
  | (i + 42), ho, hL, hi => exact absurd hi (by omega)
end Go.Proofs.Ytpelmacblglhoaa
