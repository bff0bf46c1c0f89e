import Derived.Test.YtpidmpefodnffaaGreatDoorZfde
namespace Go.Proofs.YtpidmpefodnffaaGreatDoor
open Go.RowKit
set_option maxHeartbeats 4000000
set_option maxRecDepth 8000
def Ct.nl : Ct → Bool
  | .l _ => false
  | _ => true
theorem Rec.nl {B B' T : Nat} {ty : TypeId} {cs : List Ct} {w : World} (h : Rec B T ty cs w) (hn : cs.all Ct.nl = true) : Rec B' T ty cs w := by
  obtain ⟨vs, h1, h2, h3⟩ := h
  refine ⟨vs, h1, h2, fun j c v q1 q2 => ?_⟩
  have hc := h3 j c v q1 q2
  have hm : c.nl = true := List.all_eq_true.1 hn c (List.mem_of_getElem? q1)
  cases c with
  | n z => exact hc
  | s x => exact hc
  | b t => exact hc
  | z => exact hc
  | l u => cases hm
/-- What a layout's rows are: n fields, which are read by st. -/
structure Rw (w : World) (a : Option Addr) (n : Nat) (V : Nat → Value) (st : Nat → Bs × Nat → List Ct → (Bs × Nat) × List Ct) (T : Nat) (ty : TypeId) (Ls : List Nat) (Fx : List (Nat × Obj)) (m : Nat) : Prop where
  le : n ≤ 1000
  row : 0 < n → ∃ k vs, a = some ⟨k, 0, none⟩ ∧ (k, Obj.cells vs 213 (0, 0)) ∈ Fx ∧ ∀ i, i < n → vs[i]? = some (V i)
  tf : ∀ i, i < n → Tf T ty Ls Fx m (V i) (st i)
  ls : ∀ l, l ∈ Ls → l ≠ T ∧ ∃ y, w.heap[l]? = some (.cells #[S y] 9 (0, 0))
  fx : ∀ q, q ∈ Fx → w.heap[q.1]? = some q.2 ∧ q.1 ≠ T ∧ ¬ q.1 ∈ Ls
theorem ltake_any (a1 a2 : Option Addr) (n1 n2 : Nat) (V1 V2 : Nat → Value) (s1 s2 : Nat → Bs × Nat → List Ct → (Bs × Nat) × List Ct) (T : Nat) (ty : TypeId) (Ls : List Nat) (Fx : List (Nat × Obj)) (m : Nat) (k v : Bs) (cs : List Ct) (w : World) (hm : cs.length = m) (hk : k.length ≤ 9223372036854775807) (hv : v.length ≤ 9223372036854775807)
    (r1 : Rw w a1 n1 V1 s1 T ty Ls Fx m) (r2 : Rw w a2 n2 V2 s2 T ty Ls Fx m) (hrc : Rec 0 T ty cs w) (hnl : cs.all Ct.nl = true) (hn1 : (runF s1 n1 (k, 0) cs).2.all Ct.nl = true) :
    Calls Tryz.prog 140 #[.agg #[.slice a1 n1 n1, .slice a2 n2 n2], .agg #[S k, S v]] w fun e w' => e = .returned (.tuple #[]) ∧ Rec w.heap.size T ty (runF s2 n2 (v, 0) (runF s1 n1 (k, 0) cs).2).2 w' ∧ Only (fun k => k = T ∨ k ∈ Ls) w w' := by
  have hbA : Below w.heap.size w ((w.alloc (.cells #[.slice a1 n1 n1, .slice a2 n2 n2] 111)).alloc (.cells #[S k, S v] 30)) := ((Below.refl _ w).alloc (Nat.le_refl _) _).alloc (by simp) _
  have hX : ((w.alloc (.cells #[.slice a1 n1 n1, .slice a2 n2 n2] 111)).alloc (.cells #[S k, S v] 30)).heap[w.heap.size]? = some (.cells #[.slice a1 n1 n1, .slice a2 n2 n2] 111 (0, 0)) := by
    rw [heap_alloc_old _ _ (by simp)]; exact heap_alloc_new _ _
  have hY : ((w.alloc (.cells #[.slice a1 n1 n1, .slice a2 n2 n2] 111)).alloc (.cells #[S k, S v] 30)).heap[w.heap.size + 1]? = some (.cells #[S k, S v] 30 (0, 0)) := by
    have e := heap_alloc_new (w.alloc (.cells #[.slice a1 n1 n1, .slice a2 n2 n2] 111)) (.cells #[S k, S v] 30)
    simpa using e
  generalize hW : ((w.alloc (.cells #[.slice a1 n1 n1, .slice a2 n2 n2] 111)).alloc (.cells #[S k, S v] 30)) = W at *
  have hTl : T < w.heap.size := by
    obtain ⟨vs, q, _⟩ := hrc
    exact lt_of_row q
  have hLl : ∀ l, l ∈ Ls → l < w.heap.size := fun l hl => by
    obtain ⟨_, y, q⟩ := r1.ls l hl
    exact lt_of_row q
  have hbl := fun (i : Nat) (hi : i < w.heap.size) => hbA.block i hi
  have hrcW : Rec 0 T ty cs W := hrc.keep (fun _ => False) (Only.of_below hbA) (fun q => q) (fun _ q => q.elim)
  have hF1 : ∀ q, q ∈ Fx → W.heap[q.1]? = some q.2 ∧ q.1 ≠ T ∧ ¬ q.1 ∈ Ls := fun q hq => by
    obtain ⟨f1, f2⟩ := r1.fx q hq
    exact ⟨(hbl _ (lt_of_row f1)).trans f1, f2⟩
  have hL1 : ∀ l, l ∈ Ls → l ≠ T ∧ ∃ y, W.heap[l]? = some (.cells #[S y] 9 (0, 0)) := fun l hl => by
    obtain ⟨f1, y, f2⟩ := r1.ls l hl
    exact ⟨f1, y, (hbl _ (lt_of_row f2)).trans f2⟩
  have hTW : W.heap[T]? ≠ none := by
    obtain ⟨vs, q, _⟩ := hrcW
    rw [q]; simp
  have H1 := hide (takeAll_any a1 n1 V1 s1 T ty Ls Fx m k cs W r1.le hm hk r1.row r1.tf hTW (fun B _ => hrcW.nl hnl) hL1 hF1)
  have x0 : W.cell? ⟨w.heap.size, 0, none⟩ = some (.slice a1 n1 n1) := by unfold World.cell?; rw [hX]; rfl
  have y0 : W.cell? ⟨w.heap.size + 1, 0, none⟩ = some (S k) := by unfold World.cell?; rw [hY]; rfl
  have HX := hide hX
  have HY := hide hY
  have HF := hide hF1
  have HL := hide r2.ls
  have HBA := hide hbA
  have H2 := hide (fun (W' : World) (cs' : List Ct) => takeAll_any a2 n2 V2 s2 T ty Ls Fx m v cs' W' r2.le)
  have HR2 := hide r2
  have HN := hide hn1
  have HLl := hide hLl
  clear hX hY hrcW hF1 hL1 hTW r1 r2 hrc hnl hm hk hbl hLl hbA hn1
  generalize runF s1 n1 (k, 0) cs = Q1 at *
  go_enter Tryz.func140, Tryz.ntmps140
  go_wp2_with fail
  refine (unhide H1).mono ?_
  rintro e w1 ⟨rfl, q1, q2, q3, q4⟩
  have hX1 := (q3.block w.heap.size (lt_of_row (unhide HX)) (fun e => by
    rcases e with e | e
    · omega
    · have := unhide HLl _ e; omega)).trans (unhide HX)
  have hY1 := (q3.block (w.heap.size + 1) (lt_of_row (unhide HY)) (fun e => by
    rcases e with e | e
    · omega
    · have := unhide HLl _ e; omega)).trans (unhide HY)
  have x1 : w1.cell? ⟨w.heap.size, 1, none⟩ = some (.slice a2 n2 n2) := by unfold World.cell?; rw [hX1]; rfl
  have y1 : w1.cell? ⟨w.heap.size + 1, 1, none⟩ = some (S v) := by unfold World.cell?; rw [hY1]; rfl
  have hT1 : w1.heap[T]? ≠ none := by
    obtain ⟨vs, q, _⟩ := q1
    rw [q]; simp
  have hF2 : ∀ q, q ∈ Fx → w1.heap[q.1]? = some q.2 ∧ q.1 ≠ T ∧ ¬ q.1 ∈ Ls := fun q hq => by
    obtain ⟨f1, f2, f3⟩ := unhide HF q hq
    exact ⟨(q3.block _ (lt_of_row f1) (fun e => by
      rcases e with e | e
      · exact f2 e
      · exact f3 e)).trans f1, f2, f3⟩
  have hbw : Only (fun k => k = T ∨ k ∈ Ls) w w1 := (Only.of_below (unhide HBA)).trans q3 (fun _ _ q => q)
  have hL2 : ∀ l, l ∈ Ls → l ≠ T ∧ ∃ y, w1.heap[l]? = some (.cells #[S y] 9 (0, 0)) := fun l hl => ⟨(unhide HL l hl).1, q4 l hl⟩
  have HC := hide (unhide H2 w1 Q1.2 q2 hv (unhide HR2).row (unhide HR2).tf hT1 (fun B _ => q1.nl (unhide HN)) hL2 hF2)
  have HO := hide hbw
  clear q1 q2 q3 q4 hX1 hY1 hT1 hF2 hL2 hbw H1 H2 HX HY HF HL HR2 HN x0 y0
  go_wp2_with fail
  refine (unhide HC).mono ?_
  rintro e w2 ⟨rfl, p1, p2, p3, p4⟩
  have HP := hide (show Rec w.heap.size T ty (runF s2 n2 (v, 0) Q1.2).2 w2 ∧ Only (fun k => k = T ∨ k ∈ Ls) w w2 from ⟨p1.weaken (unhide HO).size, (unhide HO).trans p3 (fun _ _ q => q)⟩)
  clear p1 p2 p3 p4 HC HO x1 y1
  go_wp2
  go_end0
  exact ⟨rfl, (unhide HP).1, (unhide HP).2⟩
end Go.Proofs.YtpidmpefodnffaaGreatDoor
namespace Go.Proofs.YtpidmpefodnffaaGreatDoor
open Go.RowKit
set_option maxHeartbeats 4000000
set_option maxRecDepth 8000
theorem ne30 (a b k v : Bs) (W : World) : (binOp .neq 30 (.agg #[S a, S b]) (.agg #[S k, S v])).run Tryz.prog W = .ok (.bool (!(a == k && b == v))) W := by
  simp [go_sem]
  by_cases h1 : a = k <;> by_cases h2 : b = v <;> simp [h1, h2]
theorem parse_ok (s : Bs) : right (parse s).1 = true := by
  cases h : parse s with
  | mk u e =>
    rcases parse_err h with q | ⟨q, _⟩
    · subst q; exact parse_right h
    · subst q; exact right_nil
/-- Between two operations of parsed: the box T that is read into, the pair in P, zero records in R and Z. -/
structure Paq (w : World) (T P R Z : Nat) (ty : TypeId) (zs : Array Value) (k v : Bs) (Lay : (Nat → Nat) → World → Prop) (Fin : World → Prop) (c : Nat → Nat) (L : Nat → Bool) (W : World) : Prop where
  bel : Below w.heap.size w W
  pb : W.heap[P]? = some (.cells #[S k, S v] 30 (0, 0))
  rb : W.heap[R]? = some (.cells zs ty (0, 0))
  zb : W.heap[Z]? = some (.cells zs ty (0, 0))
  dep : L 3 = true → L 1 = true
  t0 : L 3 = false → W.heap[T]? = some (.cells zs ty (0, 0))
  ly : L 1 = true → L 3 = false → Lay c W
  fn : L 3 = true → Fin W
section
variable {w : World} {T P R Z : Nat} {ty : TypeId} {zs : Array Value} {k v : Bs} {Lay : (Nat → Nat) → World → Prop} {Fin : World → Prop} {c : Nat → Nat} {L : Nat → Bool} {W : World}
theorem Paq.pure (h : Paq w T P R Z ty zs k v Lay Fin c L W) (i : Nat) (h1 : i ≠ 1) (h3 : i ≠ 3) : Paq w T P R Z ty zs k v Lay Fin c (upd L i) W := by
  have e1 : upd L i 1 = L 1 := upd_ne (fun e => h1 e.symm)
  have e3 : upd L i 3 = L 3 := upd_ne (fun e => h3 e.symm)
  exact ⟨h.bel, h.pb, h.rb, h.zb, by rw [e1, e3]; exact h.dep, by rw [e3]; exact h.t0, by rw [e1, e3]; exact h.ly, by rw [e3]; exact h.fn⟩
theorem Paq.lay (h : Paq w T P R Z ty zs k v Lay Fin c L W) (h1 : L 1 = false) {c' : Nat → Nat} {W' : World} (hb : Below W.heap.size W W') (hl : Lay c' W') : Paq w T P R Z ty zs k v Lay Fin c' (upd L 1) W' := by
  have f3 : L 3 = false := no_of h.dep h1
  have e3 : upd L 1 3 = false := by rw [upd_ne (by decide)]; exact f3
  refine ⟨h.bel.trans (hb.mono h.bel.size), (hb.block _ (lt_of_row h.pb)).trans h.pb, (hb.block _ (lt_of_row h.rb)).trans h.rb, (hb.block _ (lt_of_row h.zb)).trans h.zb, fun _ => by simp [upd], fun _ => (hb.block _ (lt_of_row (h.t0 f3))).trans (h.t0 f3), fun _ _ => hl, (fun e => by rw [e3] at e; cases e)⟩
theorem Paq.take (h : Paq w T P R Z ty zs k v Lay Fin c L W) (h1 : L 1 = true) {W' : World} {B : Nat} (ho : Only (fun q => q = T ∨ B < q) W W') (hT : w.heap.size ≤ T) (hB : w.heap.size ≤ B) (hP : P ≠ T ∧ P ≤ B) (hR : R ≠ T ∧ R ≤ B) (hZ : Z ≠ T ∧ Z ≤ B) (hf : Fin W') : Paq w T P R Z ty zs k v Lay Fin c (upd L 3) W' := by
  have e3 : upd L 3 3 = true := by simp [upd]
  refine ⟨ho.below h.bel h.bel.size (fun q e => by omega), (ho.block _ (lt_of_row h.pb) (by omega)).trans h.pb, (ho.block _ (lt_of_row h.rb) (by omega)).trans h.rb, (ho.block _ (lt_of_row h.zb) (by omega)).trans h.zb, fun _ => by rw [upd_ne (by decide)]; exact h1, (fun e => by rw [e3] at e; cases e), (fun _ e => by rw [e3] at e; cases e), fun _ => hf⟩
end
theorem wp_stT {ty n : Nat} (hi : (Tryz.prog.info? ty).map (·.size) = some n) {ops : Array Oper} {rest : List Oper} {o : Oper} {a : Act} {w : World} {Q : Exit → Act → World → Prop} (hgd : o.guard = none) (x y : Operand) (ho : o.op = .store ty x y)
    (P : Nat) (hx : a.eval x = .pointer (some ⟨P, 0, none⟩)) (vs : Array Value) (hn : vs.size = n) (h1 : vs.all (·.oneCell') = true) (hy : a.eval y = .agg vs) (old : Array Value) (ho5 : old.size = n) (hg : w.heap[P]? = some (.cells old ty (0, 0)))
    (h : wpList Tryz.prog ops Q rest (a.put o.dst undef) (w.setRow P vs)) : wpList Tryz.prog ops Q (o :: rest) a w :=
  wpList_store_row hgd ty x y ho P _ hx hy ty old hg (by rw [hi, hn]) (by rw [ho5, hn]) h1 h
end Go.Proofs.YtpidmpefodnffaaGreatDoor
namespace Go.Proofs.YtpidmpefodnffaaGreatDoor
open Go.RowKit
abbrev ab : Bs := [97, 98, 99, 100, 101, 102, 103, 104, 105, 106, 107, 108, 109, 110, 111, 112, 113, 114, 115, 116, 117, 118, 119, 120]
def vraw4 (P _K9 : Nat) (vv : Bs) (_c : Unit) (i : Nat) : Value := match i with
  | 0 => (I 0)
  | 1 => (.bool true)
  | 2 => (.bool true)
  | 3 => (I 0)
  | 4 => (.bool true)
  | 5 => (.bool true)
  | 6 => (.bool true)
  | 7 => (I 140)
  | 8 => (.bool true)
  | 9 => (.bool true)
  | 10 => (.bool true)
  | 11 => (.pointer (some ⟨P, 0, none⟩))
  | 12 => (S [107, 0, 0, 0, 7])
  | 13 => (.bool true)
  | 14 => (.bool true)
  | 15 => (.bool true)
  | 16 => (.pointer (some ⟨P, 1, none⟩))
  | 17 => (S vv)
  | 18 => (.int .i64 (vv.length : Int))
  | 19 => (.bool true)
  | 20 => (.bool true)
  | 21 => (.bool true)
  | 22 => (.agg #[I 7, S ab, I 5, I 9])
  | 23 => (.agg #[I 7, S ab, I 5, I 9])
  | 24 => (.bool true)
  | 25 => (.bool true)
  | 26 => (.bool true)
  | _ => undef
def raw4T : List (Op × Option Tmp × Option (Nat × Bool)) := [
  (.move (.tmp 2), some 22, none),
  (.binOp .eql 31 (.tmp 22) (.const (.int .i64 0)) 31, some 23, none),
  (.move (.tmp 23), some 24, none),
  (.move (.tmp 4), some 25, some (2, true)),
  (.binOp .eql 31 (.tmp 25) (.const (.int .i64 0)) 31, some 26, some (2, true)),
  (.pick (.tmp 24) (.tmp 26) (.const (.bool false)), some 27, none),
  (.move (.tmp 27), some 28, none),
  (.move (.tmp 6), some 29, some (6, true)),
  (.binOp .eql 31 (.tmp 29) (.const (.int .i64 140)) 31, some 30, some (6, true)),
  (.pick (.tmp 28) (.tmp 30) (.const (.bool false)), some 31, none),
  (.move (.tmp 31), some 32, none),
  (.fieldAddr 30 (.tmp 1) 0, some 33, some (10, true)),
  (.load 9 (.tmp 33), some 34, some (10, true)),
  (.binOp .eql 9 (.tmp 34) (.const (.string ⟨#[107, 0, 0, 0, 7]⟩)) 9, some 35, some (10, true)),
  (.pick (.tmp 32) (.tmp 35) (.const (.bool false)), some 36, none),
  (.move (.tmp 36), some 37, none),
  (.fieldAddr 30 (.tmp 1) 1, some 38, some (15, true)),
  (.load 9 (.tmp 38), some 39, some (15, true)),
  (.call { callee := .builtin .len, args := #[(.tmp 39)], argTypes := #[9] }, some 40, some (15, true)),
  (.binOp .eql 3 (.tmp 40) (.const (.int .i64 36)) 3, some 41, some (15, true)),
  (.pick (.tmp 37) (.tmp 41) (.const (.bool false)), some 42, none),
  (.move (.tmp 42), some 43, none),
  (.load 60 (.tmp 3), some 44, some (21, true)),
  (.call { callee := .value (.func 57), args := #[(.const (.int .i64 7))], argTypes := #[3] }, some 45, some (21, true)),
  (.binOp .eql 60 (.tmp 44) (.tmp 45) 60, some 46, some (21, true)),
  (.pick (.tmp 43) (.tmp 46) (.const (.bool false)), some 47, none),
  (.assign (.tmp 47), some 0, none)]
def raw4D : List (Nat × Nat) := [(1, 0), (2, 1), (3, 2), (4, 2), (4, 3), (5, 2), (5, 4), (6, 5), (7, 6), (8, 6), (8, 7), (9, 6), (9, 8), (10, 9), (11, 10), (12, 10), (12, 11), (13, 10), (13, 12), (14, 10), (14, 13), (15, 14), (16, 15), (17, 15), (17, 16), (18, 15), (18, 17), (19, 15), (19, 18), (20, 15), (20, 19), (21, 20), (22, 21), (23, 21), (24, 21), (24, 22), (24, 23), (25, 21), (25, 24), (26, 25)]
set_option maxHeartbeats 4000000 in
theorem raw4 {ops : Array Oper} {id : Nat} {Q : Exit → Act → World → Prop} (P K9 : Nat) (vv : Bs) (htab : ops.toList.map (fun o => (o.op, o.dst, o.guard)) = raw4T) (hdep : deplB raw4D ops = true) (hac : acB ops = true)
    (a0 : Act) (w : World) (hsz : 48 ≤ a0.tmps.size) (o1 : a0.tmps[1]? = some (.pointer (some ⟨P, 0, none⟩))) (o2 : a0.tmps[2]? = some (I 0)) (o3 : a0.tmps[3]? = some (.pointer (some ⟨K9, 0, none⟩))) (o4 : a0.tmps[4]? = some (I 0)) (o6 : a0.tmps[6]? = some (I 140))
    (Wd : Unit → (Nat → Bool) → World → Prop) (h0 : ∃ c, Wd c (fun _ => false) w.drew) (hpure : ∀ i, i ∉ ([23] : List Nat) → ∀ c L W, Wd c L W → Wd c (upd L i) W)
    (r1 : ∀ W, (do eqGuard .eql 31 (.tmp 22) (.const (.int .i64 0)) (I 0) (.int .i64 0); binOp .eql 31 (I 0) (.int .i64 0)).run Tryz.prog W = .ok (.bool true) W)
    (r4 : ∀ W, (do eqGuard .eql 31 (.tmp 25) (.const (.int .i64 0)) (I 0) (.int .i64 0); binOp .eql 31 (I 0) (.int .i64 0)).run Tryz.prog W = .ok (.bool true) W)
    (r8 : ∀ W, (do eqGuard .eql 31 (.tmp 29) (.const (.int .i64 140)) (I 140) (.int .i64 140); binOp .eql 31 (I 140) (.int .i64 140)).run Tryz.prog W = .ok (.bool true) W)
    (r12 : ∀ c L W, Wd c L W → L 12 = false → L 11 = true → (Instr.loadAt 9 (.pointer (some ⟨P, 0, none⟩))).run Tryz.prog W = .ok (S [107, 0, 0, 0, 7]) W)
    (r13 : ∀ W, (do eqGuard .eql 9 (.tmp 34) (.const (.string ⟨#[107, 0, 0, 0, 7]⟩)) (S [107, 0, 0, 0, 7]) (.string ⟨#[107, 0, 0, 0, 7]⟩); binOp .eql 9 (S [107, 0, 0, 0, 7]) (.string ⟨#[107, 0, 0, 0, 7]⟩)).run Tryz.prog W = .ok (.bool true) W)
    (r17 : ∀ c L W, Wd c L W → L 17 = false → L 16 = true → (Instr.loadAt 9 (.pointer (some ⟨P, 1, none⟩))).run Tryz.prog W = .ok (S vv) W)
    (r19 : ∀ W, (do eqGuard .eql 3 (.tmp 40) (.const (.int .i64 36)) (.int .i64 (vv.length : Int)) (.int .i64 36); binOp .eql 3 (.int .i64 (vv.length : Int)) (.int .i64 36)).run Tryz.prog W = .ok (.bool true) W)
    (r22 : ∀ c L W, Wd c L W → L 22 = false → (Instr.loadAt 60 (.pointer (some ⟨K9, 0, none⟩))).run Tryz.prog W = .ok (.agg #[I 7, S ab, I 5, I 9]) W)
    (r23 : ∀ c L W, Wd c L W → L 23 = false → Calls Tryz.prog 57 #[(.int .i64 7)] W fun eg w' => ∃ c', (∀ j, L j = true → vraw4 P K9 vv c' j = vraw4 P K9 vv c j) ∧ eg = .returned (vraw4 P K9 vv c' 23) ∧ Wd c' (upd L 23) w')
    (r24 : ∀ W, (do eqGuard .eql 60 (.tmp 44) (.tmp 45) (.agg #[I 7, S ab, I 5, I 9]) (.agg #[I 7, S ab, I 5, I 9]); binOp .eql 60 (.agg #[I 7, S ab, I 5, I 9]) (.agg #[I 7, S ab, I 5, I 9])).run Tryz.prog W = .ok (.bool true) W)
    (hend : ∀ c L W, (∀ i, i < 27 → L i = true) → Wd c L W → Q .normal (((((((((((((((((((((((((((a0.put (some 22) (I 0)).put (some 23) (.bool true)).put (some 24) (.bool true)).put (some 25) (I 0)).put (some 26) (.bool true)).put (some 27) (.bool true)).put (some 28) (.bool true)).put (some 29) (I 140)).put (some 30) (.bool true)).put (some 31) (.bool true)).put (some 32) (.bool true)).put (some 33) (.pointer (some ⟨P, 0, none⟩))).put (some 34) (S [107, 0, 0, 0, 7])).put (some 35) (.bool true)).put (some 36) (.bool true)).put (some 37) (.bool true)).put (some 38) (.pointer (some ⟨P, 1, none⟩))).put (some 39) (S vv)).put (some 40) (.int .i64 (vv.length : Int))).put (some 41) (.bool true)).put (some 42) (.bool true)).put (some 43) (.bool true)).put (some 44) (.agg #[I 7, S ab, I 5, I 9])).put (some 45) (.agg #[I 7, S ab, I 5, I 9])).put (some 46) (.bool true)).put (some 47) (.bool true)).put (some 0) (.bool true)) W) : (Code.region id ops true).wp Tryz.prog Q a0 w := by
  let val : Unit → Nat → Value := vraw4 P K9 vv
  have hosz : ops.size = 27 := by
    have := congrArg List.length htab
    simpa [raw4T] using this
  have hds : ∀ i s, (raw4T[i]?).bind (·.2.1) = some s → dstOf ops i = some s := fun i s hi => by rw [tab_dst htab, hi]
  have hdisB : disL raw4T = true := by rfl
  have hdis := disL_of htab hdisB
  have hold : ∀ s, raw4T.all (fun x => !(x.2.1 == some s)) = true → (List.range ops.size).all (fun j => !(dstOf ops j == some s)) = true := fun s h => holdL htab s h
  refine region_detX val Wd (hac_of hac) hdis h0 ?_ ?_
  rotate_left
  · intro c L W hall hW
    have := hend c L W (by rw [← hosz]; exact hall) hW
    have e : frm ops a0 (val c) (fun _ => true) ops.size = (((((((((((((((((((((((((((a0.put (some 22) (I 0)).put (some 23) (.bool true)).put (some 24) (.bool true)).put (some 25) (I 0)).put (some 26) (.bool true)).put (some 27) (.bool true)).put (some 28) (.bool true)).put (some 29) (I 140)).put (some 30) (.bool true)).put (some 31) (.bool true)).put (some 32) (.bool true)).put (some 33) (.pointer (some ⟨P, 0, none⟩))).put (some 34) (S [107, 0, 0, 0, 7])).put (some 35) (.bool true)).put (some 36) (.bool true)).put (some 37) (.bool true)).put (some 38) (.pointer (some ⟨P, 1, none⟩))).put (some 39) (S vv)).put (some 40) (.int .i64 (vv.length : Int))).put (some 41) (.bool true)).put (some 42) (.bool true)).put (some 43) (.bool true)).put (some 44) (.agg #[I 7, S ab, I 5, I 9])).put (some 45) (.agg #[I 7, S ab, I 5, I 9])).put (some 46) (.bool true)).put (some 47) (.bool true)).put (some 0) (.bool true)) := by
      rw [hosz]
      simp only [frm, if_true]
      rw [tab_dst htab 0, tab_dst htab 1, tab_dst htab 2, tab_dst htab 3, tab_dst htab 4, tab_dst htab 5, tab_dst htab 6, tab_dst htab 7, tab_dst htab 8, tab_dst htab 9, tab_dst htab 10, tab_dst htab 11, tab_dst htab 12, tab_dst htab 13, tab_dst htab 14, tab_dst htab 15, tab_dst htab 16, tab_dst htab 17, tab_dst htab 18, tab_dst htab 19, tab_dst htab 20, tab_dst htab 21, tab_dst htab 22, tab_dst htab 23, tab_dst htab 24, tab_dst htab 25, tab_dst htab 26]
      rfl
    rw [e]
    exact this
  intro i o ho c L a w' hL hd ha hW
  have hi : i < 27 := by rw [← hosz]; exact (Array.getElem?_eq_some_iff.1 ho).1
  have G : ∀ j s : Nat, (raw4T[j]?).bind (·.2.1) = some s → s < 48 → (i, j) ∈ raw4D → a.tmps[s]? = some (val c j) := fun j s h1 h2 h3 => frm_at hdis ha j s (hds j s h1) (by omega) (depl_of hdep i j h3 ho hd)
  match i, ho, hL, hi, G with
  | 0, ho, hL, _, G =>
    obtain ⟨hop, hgd⟩ := tab3 htab ho rfl
    have h0 := frm_old ha 2 _ (hold 2 rfl) o2
    exact (dXr ho hgd (hpure 0 (by decide) c L w' hW) (g_mov hop (eval_of h0)))
  | 1, ho, hL, _, G =>
    obtain ⟨hop, hgd⟩ := tab3 htab ho rfl
    have h0 := G 0 22 rfl (by decide) (by decide)
    exact (dXr ho hgd (hpure 1 (by decide) c L w' hW) (g_bin hop (eval_of h0) rfl (r1 w')))
  | 2, ho, hL, _, G =>
    obtain ⟨hop, hgd⟩ := tab3 htab ho rfl
    have h0 := G 1 23 rfl (by decide) (by decide)
    exact (dXr ho hgd (hpure 2 (by decide) c L w' hW) (g_mov hop (eval_of h0)))
  | 3, ho, hL, _, G =>
    obtain ⟨hop, hgd⟩ := tab3 htab ho rfl
    have hg := G 2 24 rfl (by decide) (by decide)
    have h0 := frm_old ha 4 _ (hold 4 rfl) o4
    exact doesX_of (doesL_run ho (wanted_at (b := true) hgd (hds 2 24 rfl) hg) (hpure 3 (by decide) c L w' hW) (g_mov hop (eval_of h0)))
  | 4, ho, hL, _, G =>
    obtain ⟨hop, hgd⟩ := tab3 htab ho rfl
    have hg := G 2 24 rfl (by decide) (by decide)
    have h0 := G 3 25 rfl (by decide) (by decide)
    exact doesX_of (doesL_run ho (wanted_at (b := true) hgd (hds 2 24 rfl) hg) (hpure 4 (by decide) c L w' hW) (g_bin hop (eval_of h0) rfl (r4 w')))
  | 5, ho, hL, _, G =>
    obtain ⟨hop, hgd⟩ := tab3 htab ho rfl
    have h0 := G 2 24 rfl (by decide) (by decide)
    have h1 := G 4 26 rfl (by decide) (by decide)
    exact (dXr ho hgd (hpure 5 (by decide) c L w' hW) (by rw [run_pick _ _ _ _ _ hop true (eval_of h0)]; exact congrArg (fun v => Result.ok (Next.value v) w') (eval_of h1)))
  | 6, ho, hL, _, G =>
    obtain ⟨hop, hgd⟩ := tab3 htab ho rfl
    have h0 := G 5 27 rfl (by decide) (by decide)
    exact (dXr ho hgd (hpure 6 (by decide) c L w' hW) (g_mov hop (eval_of h0)))
  | 7, ho, hL, _, G =>
    obtain ⟨hop, hgd⟩ := tab3 htab ho rfl
    have hg := G 6 28 rfl (by decide) (by decide)
    have h0 := frm_old ha 6 _ (hold 6 rfl) o6
    exact doesX_of (doesL_run ho (wanted_at (b := true) hgd (hds 6 28 rfl) hg) (hpure 7 (by decide) c L w' hW) (g_mov hop (eval_of h0)))
  | 8, ho, hL, _, G =>
    obtain ⟨hop, hgd⟩ := tab3 htab ho rfl
    have hg := G 6 28 rfl (by decide) (by decide)
    have h0 := G 7 29 rfl (by decide) (by decide)
    exact doesX_of (doesL_run ho (wanted_at (b := true) hgd (hds 6 28 rfl) hg) (hpure 8 (by decide) c L w' hW) (g_bin hop (eval_of h0) rfl (r8 w')))
  | 9, ho, hL, _, G =>
    obtain ⟨hop, hgd⟩ := tab3 htab ho rfl
    have h0 := G 6 28 rfl (by decide) (by decide)
    have h1 := G 8 30 rfl (by decide) (by decide)
    exact (dXr ho hgd (hpure 9 (by decide) c L w' hW) (by rw [run_pick _ _ _ _ _ hop true (eval_of h0)]; exact congrArg (fun v => Result.ok (Next.value v) w') (eval_of h1)))
  | 10, ho, hL, _, G =>
    obtain ⟨hop, hgd⟩ := tab3 htab ho rfl
    have h0 := G 9 31 rfl (by decide) (by decide)
    exact (dXr ho hgd (hpure 10 (by decide) c L w' hW) (g_mov hop (eval_of h0)))
  | 11, ho, hL, _, G =>
    obtain ⟨hop, hgd⟩ := tab3 htab ho rfl
    have hg := G 10 32 rfl (by decide) (by decide)
    have h0 := frm_old ha 1 _ (hold 1 rfl) o1
    exact doesX_of (doesL_run ho (wanted_at (b := true) hgd (hds 10 32 rfl) hg) (hpure 11 (by decide) c L w' hW) (g_field hop (eval_of h0) (by kernel_rfl)))
  | 12, ho, hL, _, G =>
    obtain ⟨hop, hgd⟩ := tab3 htab ho rfl
    have hg := G 10 32 rfl (by decide) (by decide)
    have h0 := G 11 33 rfl (by decide) (by decide)
    exact doesX_of (doesL_run ho (wanted_at (b := true) hgd (hds 10 32 rfl) hg) (hpure 12 (by decide) c L w' hW) (g_load hop (eval_of h0) (r12 c L w' hW hL (depl_of hdep 12 11 (by decide) ho hd))))
  | 13, ho, hL, _, G =>
    obtain ⟨hop, hgd⟩ := tab3 htab ho rfl
    have hg := G 10 32 rfl (by decide) (by decide)
    have h0 := G 12 34 rfl (by decide) (by decide)
    exact doesX_of (doesL_run ho (wanted_at (b := true) hgd (hds 10 32 rfl) hg) (hpure 13 (by decide) c L w' hW) (g_bin hop (eval_of h0) rfl (r13 w')))
  | 14, ho, hL, _, G =>
    obtain ⟨hop, hgd⟩ := tab3 htab ho rfl
    have h0 := G 10 32 rfl (by decide) (by decide)
    have h1 := G 13 35 rfl (by decide) (by decide)
    exact (dXr ho hgd (hpure 14 (by decide) c L w' hW) (by rw [run_pick _ _ _ _ _ hop true (eval_of h0)]; exact congrArg (fun v => Result.ok (Next.value v) w') (eval_of h1)))
  | 15, ho, hL, _, G =>
    obtain ⟨hop, hgd⟩ := tab3 htab ho rfl
    have h0 := G 14 36 rfl (by decide) (by decide)
    exact (dXr ho hgd (hpure 15 (by decide) c L w' hW) (g_mov hop (eval_of h0)))
  | 16, ho, hL, _, G =>
    obtain ⟨hop, hgd⟩ := tab3 htab ho rfl
    have hg := G 15 37 rfl (by decide) (by decide)
    have h0 := frm_old ha 1 _ (hold 1 rfl) o1
    exact doesX_of (doesL_run ho (wanted_at (b := true) hgd (hds 15 37 rfl) hg) (hpure 16 (by decide) c L w' hW) (g_field hop (eval_of h0) (by kernel_rfl)))
  | 17, ho, hL, _, G =>
    obtain ⟨hop, hgd⟩ := tab3 htab ho rfl
    have hg := G 15 37 rfl (by decide) (by decide)
    have h0 := G 16 38 rfl (by decide) (by decide)
    exact doesX_of (doesL_run ho (wanted_at (b := true) hgd (hds 15 37 rfl) hg) (hpure 17 (by decide) c L w' hW) (g_load hop (eval_of h0) (r17 c L w' hW hL (depl_of hdep 17 16 (by decide) ho hd))))
  | 18, ho, hL, _, G =>
    obtain ⟨hop, hgd⟩ := tab3 htab ho rfl
    have hg := G 15 37 rfl (by decide) (by decide)
    have h0 := G 17 39 rfl (by decide) (by decide)
    exact doesX_of (doesL_run ho (wanted_at (b := true) hgd (hds 15 37 rfl) hg) (hpure 18 (by decide) c L w' hW) (run_len _ _ _ hop _ (eval_of h0) _))
  | 19, ho, hL, _, G =>
    obtain ⟨hop, hgd⟩ := tab3 htab ho rfl
    have hg := G 15 37 rfl (by decide) (by decide)
    have h0 := G 18 40 rfl (by decide) (by decide)
    exact doesX_of (doesL_run ho (wanted_at (b := true) hgd (hds 15 37 rfl) hg) (hpure 19 (by decide) c L w' hW) (g_bin hop (eval_of h0) rfl (r19 w')))
  | 20, ho, hL, _, G =>
    obtain ⟨hop, hgd⟩ := tab3 htab ho rfl
    have h0 := G 15 37 rfl (by decide) (by decide)
    have h1 := G 19 41 rfl (by decide) (by decide)
    exact (dXr ho hgd (hpure 20 (by decide) c L w' hW) (by rw [run_pick _ _ _ _ _ hop true (eval_of h0)]; exact congrArg (fun v => Result.ok (Next.value v) w') (eval_of h1)))
  | 21, ho, hL, _, G =>
    obtain ⟨hop, hgd⟩ := tab3 htab ho rfl
    have h0 := G 20 42 rfl (by decide) (by decide)
    exact (dXr ho hgd (hpure 21 (by decide) c L w' hW) (g_mov hop (eval_of h0)))
  | 22, ho, hL, _, G =>
    obtain ⟨hop, hgd⟩ := tab3 htab ho rfl
    have hg := G 21 43 rfl (by decide) (by decide)
    have h0 := frm_old ha 3 _ (hold 3 rfl) o3
    exact doesX_of (doesL_run ho (wanted_at (b := true) hgd (hds 21 43 rfl) hg) (hpure 22 (by decide) c L w' hW) (g_load hop (eval_of h0) (r22 c L w' hW hL)))
  | 23, ho, hL, _, G =>
    obtain ⟨hop, hgd⟩ := tab3 htab ho rfl
    have hg := G 21 43 rfl (by decide) (by decide)
    refine doesX_call ho (wanted_at (b := true) hgd (hds 21 43 rfl) hg) 57 #[(.int .i64 7)] ?_ (r23 c L w' hW hL)
    rw [run_calls Tryz.func57 (by kernel_rfl) rfl _ _ _ _ hop rfl]
    simp only [List.map_toArray, List.map_cons, List.map_nil]
    all_goals rfl
  | 24, ho, hL, _, G =>
    obtain ⟨hop, hgd⟩ := tab3 htab ho rfl
    have hg := G 21 43 rfl (by decide) (by decide)
    have h0 := G 22 44 rfl (by decide) (by decide)
    have h1 := G 23 45 rfl (by decide) (by decide)
    exact doesX_of (doesL_run ho (wanted_at (b := true) hgd (hds 21 43 rfl) hg) (hpure 24 (by decide) c L w' hW) (g_bin hop (eval_of h0) (eval_of h1) (r24 w')))
  | 25, ho, hL, _, G =>
    obtain ⟨hop, hgd⟩ := tab3 htab ho rfl
    have h0 := G 21 43 rfl (by decide) (by decide)
    have h1 := G 24 46 rfl (by decide) (by decide)
    exact (dXr ho hgd (hpure 25 (by decide) c L w' hW) (by rw [run_pick _ _ _ _ _ hop true (eval_of h0)]; exact congrArg (fun v => Result.ok (Next.value v) w') (eval_of h1)))
  | 26, ho, hL, _, G =>
    obtain ⟨hop, hgd⟩ := tab3 htab ho rfl
    have h0 := G 25 47 rfl (by decide) (by decide)
    exact (dXr ho hgd (hpure 26 (by decide) c L w' hW) (by rw [run_assign _ _ _ hop]; exact congrArg (fun v => Result.ok (Next.value v) w') (eval_of h0)))
  | (i + 27), ho, hL, hi, _ => exact absurd hi (by omega)
end Go.Proofs.YtpidmpefodnffaaGreatDoor
