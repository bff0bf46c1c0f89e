import Derived.Test.YtmjaobddgaglhaaGreatDoorProg
import Derived.WalkKit
import Derived.BigQuiet
import Derived.Deep.QuietTactic
import Derived.Laws.CopyRow
import Derived.Laws.MakeOwn
import Derived.Maps.AppendAt
import Derived.Lib.BufSteps
import Derived.Deep.RegionLaw
import Derived.Lib.AppendStr
import Derived.Laws.EntriesVeiled
namespace Go.Proofs.YtmjaobddgaglhaaGreatDoor
open Go.RowKit
theorem hide {p : Prop} (h : p) : Hid p := h
theorem unhide {p : Prop} (h : Hid p) : p := h
theorem ret_int {k : IntKind} {a b : Int} (h : a = b) : Ending.returned (.int k a) = .returned (.int k b) := by rw [h]
theorem ret_bool {a b : Bool} (h : a = b) : Ending.returned (.bool a) = .returned (.bool b) := by rw [h]
abbrev Bs := List UInt8
abbrev I (n : Int) : Value := .int .i64 n
abbrev S (l : Bs) : Value := .string ⟨l.toArray⟩
abbrev ptr (b : Nat) : Value := .pointer (some ⟨b, 0, none⟩)
/-- Of the old blocks none but these may have turned. -/
structure Only (P : Nat → Prop) (w w' : World) : Prop where
  os : w'.os = w.os
  tape : w'.tape = w.tape
  output : w'.output = w.output
  size : w.heap.size ≤ w'.heap.size
  block : ∀ k, k < w.heap.size → ¬ P k → w'.heap[k]? = w.heap[k]?
theorem Only.refl (P : Nat → Prop) (w : World) : Only P w w := ⟨rfl, rfl, rfl, Nat.le_refl _, fun _ _ _ => rfl⟩
theorem Only.trans {P Q : Nat → Prop} {a b c : World} (h1 : Only P a b) (h2 : Only Q b c) (hq : ∀ k, k < a.heap.size → Q k → P k) : Only P a c :=
  ⟨h2.os.trans h1.os, h2.tape.trans h1.tape, h2.output.trans h1.output, Nat.le_trans h1.size h2.size, fun k hk hp => (h2.block k (Nat.lt_of_lt_of_le hk h1.size) (fun q => hp (hq k hk q))).trans (h1.block k hk hp)⟩
theorem Only.of_below {P : Nat → Prop} {w w' : World} (h : Below w.heap.size w w') : Only P w w' := ⟨h.os, h.tape, h.output, h.size, fun k hk _ => h.block k hk⟩
theorem Only.to_below {w w' : World} (h : Only (fun _ => False) w w') : Below w.heap.size w w' := ⟨h.os, h.tape, h.output, h.size, fun k hk => h.block k hk (fun q => q)⟩
theorem Only.below {P : Nat → Prop} {a w w' : World} {base : Nat} (h : Only P w w') (hb : Below base a w) (hle : base ≤ w.heap.size) (hp : ∀ k, P k → base ≤ k) : Below base a w' :=
  hb.trans ⟨h.os, h.tape, h.output, h.size, fun k hk => h.block k (by omega) (fun q => by have := hp k q; omega)⟩
theorem Only.of_grown {w w' : World} {row : Option Nat} (h : w.grownBy w' row) : Only (fun k => row = some k) w w' := ⟨h.os, h.tape, h.output, h.size, fun k hk hp => h.block k hk (fun e => hp e.symm)⟩
theorem Only.drewN (P : Nat → Prop) (w : World) (n : Nat) : Only P w (w.drewN n) := ⟨rfl, rfl, rfl, Nat.le_refl _, fun _ _ _ => rfl⟩
theorem Only.alloc (P : Nat → Prop) (w : World) (o : Obj) : Only P w (w.alloc o) := Only.of_below ((Below.refl _ _).alloc (Nat.le_refl _) o)
theorem Only.setCell (w : World) (a : Addr) (v : Value) : Only (fun k => k = a.block) w (w.setCell a v) :=
  ⟨rfl, rfl, rfl, by simp [World.setCell], fun k _ hp => heap_setCell_other w a k v hp⟩
theorem Only.more {P : Nat → Prop} {w w' : World} (h : Only P w w') (o : Obj) : Only P w (w'.alloc o) := h.trans (Only.alloc P w' o) (fun _ _ q => q)
theorem lt_of_row {w : World} {b : Nat} {o : Obj} (h : w.heap[b]? = some o) : b < w.heap.size := (Array.getElem?_eq_some_iff.1 h).1
theorem owns_lt {e n m : Nat} {w : World} {v : Value} {xs : List Value} (h : w.ownsRow 0 e n v m xs) : ∀ k, v.ownBlock = some k → ∃ cs, w.heap[k]? = some (.cells cs e (0, 0)) := by
  intro k hk
  rcases h.2 with ⟨e1, _⟩ | ⟨g, cap, cur, e1, e2, e3, e4⟩
  · rw [e1] at hk; cases hk
  · rw [e1] at hk
    cases hk
    exact ⟨cur, e3⟩
theorem owns_blk {e n m : Nat} {w : World} {v : Value} {xs : List Value} (h : w.ownsRow 0 e n v m xs) : ∀ k, v.ownBlock = some k → k < w.heap.size := fun k hk => by
  obtain ⟨cs, q⟩ := owns_lt h k hk
  exact lt_of_row q
theorem info9 : (Tryz.prog.info? 9).map (fun i => (i.zero, i.size, i.bytes)) = some (some (.string ⟨#[]⟩), 1, 16) := by kernel_rfl
theorem info5 : (Tryz.prog.info? 5).map (fun i => (i.zero, i.size, i.bytes)) = some (some (.int .u8 0), 1, 1) := by kernel_rfl
end Go.Proofs.YtmjaobddgaglhaaGreatDoor
namespace Go.Proofs.YtmjaobddgaglhaaGreatDoor
open Go.RowKit Go.Lib
def B (c : UInt8) : Value := .int .u8 (c.toNat : Int)
/-- Bytes in memory of one's own, that may be made longer. -/
def Own (base : Nat) (v : Value) (X : List UInt8) (W0 w : World) : Prop := OwnBuf base 5 v X.length (X.map B) W0 w
theorem wpList_conv {P : Program} {ops : Array Oper} {rest : List Oper} {o : Oper} {a : Act} {w : World} {Q : Exit → Act → World → Prop} (hgd : o.guard = none) (src dst : TypeId) (x : Operand) (ho : o.op = .convert src dst x)
    (v v' : Value) (hx : a.eval x = v) (hrun : (convert src dst v).run P w = .ok v' w)
    (h : wpList P ops Q rest (a.put o.dst v') w) : wpList P ops Q (o :: rest) a w :=
  wpList_plain hgd fun _ hK => by
    unfold Oper.wp execOp
    simp only [ho, hx, Sem.run_bind, hrun, Result.andThen_ok]
    exact hK _ _ h
theorem fold_push (l : List UInt8) (r : ByteArray) : (l.map fun c => (c.toNat : Int)).foldl (fun r n => r.push (UInt8.ofNat n.toNat)) r = ⟨r.data ++ l.toArray⟩ := by
  induction l generalizing r with
  | nil => simp
  | cons c l ih =>
    simp only [List.map_cons, List.foldl_cons, ih]
    simp [ByteArray.push]
/-- What lies in memory as bytes is the text of them. -/
theorem run_text (w : World) (g o len cap : Nat) (l : List UInt8) (hl : l.length = len) (h : ∀ j, j < len → w.cell? ⟨g, o + j, none⟩ = some (.int .u8 ((l.getD j 0).toNat : Int))) :
    (convert 101 9 (.slice (some ⟨g, o, none⟩) len cap)).run Tryz.prog w = .ok (.string ⟨l.toArray⟩) w := by
  rw [run_convert_bytes_string w 101 9 5 _ _ _ Tryz.underlying101 Tryz.underlying5 Tryz.underlying9]
  have hload : (loadCells ⟨g, o, none⟩ len).run Tryz.prog w = .ok ((l.map fun c => (c.toNat : Int)).map (Value.int .u8)).toArray w := by
    have := run_loadCells_list (P := Tryz.prog) w ⟨g, o, none⟩ ((l.map fun c => (c.toNat : Int)).map (Value.int .u8)) (fun j v hv => by
      have hadd : (⟨g, o, none⟩ : Addr).add j = ⟨g, o + j, none⟩ := by unfold Addr.add; split <;> simp_all
      rw [hadd]
      have hj : j < len := by
        have := (List.getElem?_eq_some_iff.1 hv).1
        simpa [hl] using this
      rw [h j hj, ← hv]
      simp [List.getElem?_map, List.getElem?_eq_getElem (by omega : j < l.length)])
    simpa [hl] using this
  rw [run_bytesToString w _ _ _ _ hload, fold_push]
  simp
theorem run_text_nil (w : World) : (convert 101 9 (.slice none 0 0)).run Tryz.prog w = .ok (.string ⟨(([] : List UInt8)).toArray⟩) w := by kernel_rfl
theorem Own.text {base : Nat} {v : Value} {X : List UInt8} {W0 w : World} (h : Own base v X W0 w) : (convert 101 9 v).run Tryz.prog w = .ok (.string ⟨X.toArray⟩) w := by
  have hc := fun {g : Nat} (hg : v.ownBlock = some g) => h.1.cells hg
  rcases h.1.2 with ⟨e, q⟩ | ⟨g, cap, cur, fz, e1, e2⟩
  · subst e
    have : X = [] := List.eq_nil_of_length_eq_zero q
    subst this
    exact run_text_nil w
  · subst e1
    refine run_text w g 0 X.length cap X rfl ?_
    intro j hj
    rw [Nat.zero_add]
    have := hc (g := g) rfl j (B (X.getD j 0)) (by simp [hj])
    have hadd : (⟨g, 0, none⟩ : Addr).add j = ⟨g, j, none⟩ := by unfold Addr.add; split <;> simp_all
    rw [hadd] at this
    exact this
theorem take_snoc (l : List UInt8) (k : Nat) (h : k < l.length) : l.take (k + 1) = l.take k ++ [l[k]] := List.take_succ_eq_append_getElem h
end Go.Proofs.YtmjaobddgaglhaaGreatDoor
namespace Go.Proofs.YtmjaobddgaglhaaGreatDoor
open Go.RowKit Go.Lib
theorem Only.drew (P : Nat → Prop) (w : World) : Only P w w.drew := ⟨rfl, rfl, rfl, Nat.le_refl _, fun _ _ _ => rfl⟩
/-- What was wrong, as the program keeps it. -/
def errV (E : Nat) : Value := if E = 0 then .nilIface else .iface 163 (.agg #[.int .i64 (E : Int)])
theorem errV_0 : errV 0 = .nilIface := rfl
theorem errV_ne {E : Nat} (h : E ≠ 0) : errV E = .iface 163 (.agg #[.int .i64 (E : Int)]) := by simp [errV, h]
/-- A Writer: what it has laid, what was wrong. -/
structure WAt (b : Nat) (v : Value) (X : List UInt8) (E : Nat) (w : World) : Prop where
  row : w.heap[b]? = some (.cells #[v, errV E] 161 (0, 0))
  own : w.ownsRow 0 5 1 v X.length (X.map B)
  ne : v.ownBlock ≠ some b
/-- Where a Writer stands. -/
def foot (b : Nat) (v : Value) : Nat → Prop := fun k => k = b ∨ v.ownBlock = some k
theorem ownsF_same {w w' : World} {v : Value} {n : Nat} {xs : List Value} (h : w.ownsRow 0 5 1 v n xs) (hb : ∀ k, v.ownBlock = some k → w'.heap[k]? = w.heap[k]?) : w'.ownsRow 0 5 1 v n xs := by
  refine ⟨h.1, ?_⟩
  rcases h.2 with q | ⟨g, cap, cur, e1, e2, e3, e4⟩
  · exact .inl q
  · exact .inr ⟨g, cap, cur, e1, e2, (hb g (by rw [e1]; rfl)).trans e3, e4⟩
theorem WAt.keep {b : Nat} {v : Value} {X : List UInt8} {E : Nat} {w w' : World} {P : Nat → Prop} (h : WAt b v X E w) (ho : Only P w w') (hb : ¬ P b) (hv : ∀ k, v.ownBlock = some k → ¬ P k) : WAt b v X E w' :=
  ⟨(ho.block b (lt_of_row h.row) hb).trans h.row, ownsF_same h.own (fun k hk => ho.block k ((World.ownsRowF_of h.own).lt k hk).2 (hv k hk)), h.ne⟩
theorem WAt.c0 {b : Nat} {v : Value} {X : List UInt8} {E : Nat} {w : World} (h : WAt b v X E w) : w.cell? ⟨b, 0, none⟩ = some v := by
  rw [cell_of_row w b 0 _ 161 (0, 0) h.row]; rfl
theorem WAt.c1 {b : Nat} {v : Value} {X : List UInt8} {E : Nat} {w : World} (h : WAt b v X E w) : w.cell? ⟨b, 1, none⟩ = some (errV E) := by
  rw [cell_of_row w b 1 _ 161 (0, 0) h.row]; rfl
theorem WAt.fz {b : Nat} {v : Value} {X : List UInt8} {E : Nat} {w : World} (h : WAt b v X E w) (j : Nat) : w.frozen? ⟨b, j, none⟩ = false := frozen_of_row w b j _ 161 h.row
theorem WAt.set1 {b : Nat} {v : Value} {X : List UInt8} {E E' : Nat} {w : World} (h : WAt b v X E w) : WAt b v X E' (w.setCell ⟨b, 1, none⟩ (errV E')) := by
  have hr := heap_setCell_same w b 1 _ 161 (errV E') h.row
  refine ⟨?_, ownsF_same h.own (fun k hk => heap_setCell_other w ⟨b, 1, none⟩ k _ (fun e => h.ne (by rw [hk, e]))), h.ne⟩
  simpa using hr
theorem ownsRow_form {w : World} {v : Value} {n : Nat} {xs : List Value} (h : w.ownsRow 0 5 1 v n xs) : ∃ p cap, v = .slice p n cap := by
  rcases h.2 with ⟨e, q⟩ | ⟨g, cap, cur, e1, e2⟩
  · exact ⟨none, 0, by rw [e, q]⟩
  · exact ⟨_, cap, e1⟩
/-- One more byte in a region whose order is drawn. -/
theorem step_push {ops : Array Oper} {o : Oper} {a : Act} {K : Act → World → Prop} {Q : Exit → Act → World → Prop} {R : Prop} (hgd : o.guard = none) (s x : Operand)
    (ho : o.op = .call { callee := .builtin .append, args := #[s, x], argTypes := #[101, 101] })
    (v : Value) (X : List UInt8) (hs : a.eval s = v) (w0 : World) (ci : Int) (c : UInt8) (hci : ci = (c.toNat : Int)) (hown : w0.ownsRow 0 5 1 v X.length (X.map B))
    (hx : a.eval x = .slice (some ⟨w0.heap.size, 0, none⟩) 1 1) (hlen : X.length + 1 ≤ 140737488355328)
    (h : ∀ p cap w', w'.ownsRow 0 5 1 (.slice p (X ++ [c]).length cap) (X ++ [c]).length ((X ++ [c]).map B) → Only (fun k => v.ownBlock = some k) w0 w' → (∀ k, (Value.slice p (X ++ [c]).length cap).ownBlock = some k → v.ownBlock = some k ∨ w0.heap.size ≤ k) → K (a.put o.dst (.slice p (X ++ [c]).length cap)) w') :
    if Region.wanted o (yielded ops a.tmps) = true then Oper.wp Tryz.prog o a (w0.alloc (.cells #[.int .u8 ci] 5)) K Q else R := by
  have hw : Region.wanted o (yielded ops a.tmps) = true := by simp [Region.wanted, hgd]
  rw [if_pos hw]
  subst hci
  obtain ⟨i0, hi, hz0, hz1, hz2⟩ := info_parts info5
  have hown' := ownsF_same (w' := w0.alloc (.cells #[.int .u8 (c.toNat : Int)] 5)) hown (fun k hk => Below.heap_alloc w0 _ k ((World.ownsRowF_of hown).lt k hk).2)
  have hnew : ∀ j u, [B c][j]? = some u → (w0.alloc (.cells #[.int .u8 (c.toNat : Int)] 5)).cell? ((⟨w0.heap.size, 0, none⟩ : Addr).add j) = some u := by
    intro j u hj
    match j, hj with
    | 0, hj => simp at hj; subst hj; simp [Addr.add, B]
    | (j + 1), hj => simp at hj
  obtain ⟨v', w', hr, h2, h3, _, h5⟩ := run_append_own_at (P := Tryz.prog) (w0.alloc (.cells #[.int .u8 (c.toNat : Int)] 5)) 0 101 o.type 5 i0 (.int .u8 0) 1 1 Tryz.underlying101 hi hz0 hz1 hz2 rfl (by decide) v X.length (X.map B) hown' ⟨w0.heap.size, 0, none⟩ 1 1 [B c] rfl hnew (by intro u hu; simp at hu; subst hu; rfl) (by unfold maxLen; omega) (by omega) (Nat.zero_le _)
  have hfresh : ∀ k, v'.ownBlock = some k → v.ownBlock = some k ∨ w0.heap.size ≤ k := by
    intro k hk
    rcases h5 with h5 | h5
    · left; rw [← h5]; exact hk
    · right; rw [hk] at h5; have := Option.some.inj h5; simp at this; omega
  unfold Oper.wp execOp
  simp only [ho, resolve, invoke, builtin, Sem.run_bind, Sem.run_pure, Result.andThen_ok, List.map_toArray, List.map_cons, List.map_nil, hs, hx, hr]
  have h2' : w'.ownsRow 0 5 1 v' (X ++ [c]).length ((X ++ [c]).map B) := by
    rw [List.length_append, List.map_append]
    exact h2
  obtain ⟨p, cap, rfl⟩ := ownsRow_form h2'
  exact h p cap w' h2' ((Only.alloc _ w0 _).trans (Only.of_grown h3) (fun k _ q => q)) hfresh
/-- The bytes of a text behind one's own. -/
theorem own_text {ops : Array Oper} {rest : List Oper} {o : Oper} {a : Act} {Q : Exit → Act → World → Prop} {w : World} (hgd : o.guard = none) (sl x : Operand)
    (ho : o.op = .call { callee := .builtin .append, args := #[sl, x], argTypes := #[101, 9] })
    (v : Value) (X : List UInt8) (hs : a.eval sl = v) (hown : w.ownsRow 0 5 1 v X.length (X.map B)) (s : List UInt8) (hx : a.eval x = .string ⟨s.toArray⟩) (hlen : X.length + s.length ≤ 140737488355328)
    (h : ∀ p cap w', w'.ownsRow 0 5 1 (.slice p (X ++ s).length cap) (X ++ s).length ((X ++ s).map B) → Only (fun k => v.ownBlock = some k) w w' → (∀ k, (Value.slice p (X ++ s).length cap).ownBlock = some k → v.ownBlock = some k ∨ w.heap.size ≤ k) → wpList Tryz.prog ops Q rest (a.put o.dst (.slice p (X ++ s).length cap)) w') : wpList Tryz.prog ops Q (o :: rest) a w := by
  refine wpList_plain hgd fun K hK => ?_
  obtain ⟨i0, hi, hz0, hz1, hz2⟩ := info_parts info5
  have hsz : (ByteArray.mk s.toArray).size = s.length := by simp [ByteArray.size]
  have e : strCells ⟨s.toArray⟩ = s.map B := by simp [strCells, B]
  obtain ⟨v', w', hr, h2, h3, _⟩ := run_append_own_string (P := Tryz.prog) w 0 101 9 o.type 5 i0 Tryz.underlying101 Tryz.underlying9 hi hz0 hz1 hz2 v X.length (X.map B) hown ⟨s.toArray⟩ (by rw [hsz]; unfold maxLen; omega) (by rw [hsz]; exact hlen) (Nat.zero_le _)
  have hfresh : ∀ k, v'.ownBlock = some k → v.ownBlock = some k ∨ w.heap.size ≤ k := by
    intro k hk
    rcases hown.2 with ⟨q1, q2⟩ | ⟨g, cap, cur, e1, e2, e3, e4, e5, e6, e7⟩
    · right
      have hX : X = [] := List.eq_nil_of_length_eq_zero q2
      subst hX q1
      obtain ⟨v2, w2, hr2, h22, _⟩ := run_append_own_string (P := Tryz.prog) w w.heap.size 101 9 o.type 5 i0 Tryz.underlying101 Tryz.underlying9 hi hz0 hz1 hz2 (.slice none 0 0) 0 [] (World.ownsRow_nil w _ _ _) ⟨s.toArray⟩ (by rw [hsz]; unfold maxLen; simp at hlen; omega) (by rw [hsz]; simp at hlen; omega) (Nat.le_refl _)
      rw [hr] at hr2
      injection hr2 with hv hw
      subst hv hw
      exact ((World.ownsRowF_of h22).lt k hk).1
    · subst e1
      by_cases hroom : X.length + (ByteArray.mk s.toArray).size ≤ cap
      · have hr2 := run_append_room_string (P := Tryz.prog) w 101 9 o.type 5 i0 Tryz.underlying101 Tryz.underlying9 hi hz1 g X.length cap cur e3 ⟨s.toArray⟩ hroom (by omega)
        rw [hr] at hr2
        injection hr2 with hv hw
        subst hv
        exact .inl hk
      · have holds : ∀ j u, (X.map B)[j]? = some u → w.cell? ((⟨g, 0, none⟩ : Addr).add j) = some u := hown.cells (g := g) rfl
        have hr2 := run_append_grow_string (P := Tryz.prog) w 101 9 o.type 5 i0 (.int .u8 0) Tryz.underlying101 Tryz.underlying9 hi hz0 ⟨g, 0, none⟩ X.length cap (X.map B) (by rw [hz1]; simp) holds ⟨s.toArray⟩ (by omega) (by rw [hsz]; omega) (by rw [hz2]; exact growslice_fits (by omega) (by rw [hsz]; omega))
        rw [hr] at hr2
        injection hr2 with hv hw
        subst hv
        right
        have : w.heap.size = k := by simpa [Value.ownBlock] using hk
        omega
  unfold Oper.wp execOp
  simp only [ho, resolve, invoke, builtin, Sem.run_bind, Sem.run_pure, Result.andThen_ok, List.map_toArray, List.map_cons, List.map_nil, hs, hx, hr]
  have h2' : w'.ownsRow 0 5 1 v' (X ++ s).length ((X ++ s).map B) := by
    rw [List.length_append, List.map_append]
    rw [hsz, e] at h2
    exact h2
  obtain ⟨p, cap, rfl⟩ := ownsRow_form h2'
  exact hK _ _ (h p cap w' h2' (Only.of_grown h3) hfresh)
theorem WAt.text {b : Nat} {v : Value} {X : List UInt8} {E : Nat} {w : World} (h : WAt b v X E w) : (convert 101 9 v).run Tryz.prog w = .ok (.string ⟨X.toArray⟩) w :=
  Own.text (base := 0) (W0 := w) ⟨World.ownsRowF_of h.own, Below.refl _ _, Nat.zero_le _⟩
end Go.Proofs.YtmjaobddgaglhaaGreatDoor
namespace Go.Proofs.YtmjaobddgaglhaaGreatDoor
open Go.RowKit Go.Lib
/-- A number by so many bytes, the highest first. -/
def be (size n : Nat) : List UInt8 := (List.range size).map fun i => UInt8.ofNat (n / 256 ^ (size - 1 - i))
theorem be_len (size n : Nat) : (be size n).length = size := by simp [be]
theorem be_next (size n k : Nat) (h : k < size) : (be size n).take (k + 1) = (be size n).take k ++ [UInt8.ofNat (n / 256 ^ (size - 1 - k))] := by
  rw [List.take_succ_eq_append_getElem (by rw [be_len]; exact h)]
  simp [be]
/-- What a Writer becomes. -/
def WTo (b : Nat) (v : Value) (X' : List UInt8) (E' : Nat) (w w' : World) : Prop :=
  ∃ v', WAt b v' X' E' w' ∧ Only (foot b v) w w' ∧ ∀ q, v'.ownBlock = some q → v.ownBlock = some q ∨ w.heap.size ≤ q
theorem WTo.step {b : Nat} {v v1 : Value} {X2 : List UInt8} {E2 : Nat} {w w1 w2 : World} (h1 : Only (foot b v) w w1) (h1f : ∀ q, v1.ownBlock = some q → v.ownBlock = some q ∨ w.heap.size ≤ q) (h2 : WTo b v1 X2 E2 w1 w2) : WTo b v X2 E2 w w2 := by
  obtain ⟨v2, a, o, f⟩ := h2
  refine ⟨v2, a, h1.trans o ?_, ?_⟩
  · intro k hk q
    rcases q with q | q
    · exact .inl q
    · rcases h1f k q with r | r
      · exact .inr r
      · omega
  · intro q hq
    rcases f q hq with r | r
    · exact h1f q r
    · exact .inr (Nat.le_trans h1.size r)
theorem WTo.same {b : Nat} {v : Value} {X : List UInt8} {E : Nat} {w : World} (h : WAt b v X E w) : WTo b v X E w w := ⟨v, h, Only.refl _ _, fun _ q => .inl q⟩
theorem WTo.err {b : Nat} {v : Value} {X : List UInt8} {E E' : Nat} {w : World} (h : WAt b v X E w) : WTo b v X E' w (w.setCell ⟨b, 1, none⟩ (errV E')) :=
  ⟨v, h.set1, (Only.setCell w ⟨b, 1, none⟩ (errV E')).trans (Only.refl (fun _ => False) _) (fun _ _ q => q.elim) |> fun o => ⟨o.os, o.tape, o.output, o.size, fun k hk hp => o.block k hk (fun e => hp (.inl e))⟩, fun _ q => .inl q⟩
set_option maxHeartbeats 1000000 in
theorem newwriter_any (w : World) :
    Calls Tryz.prog 92 #[] w fun e w' => e = .returned (.pointer (some ⟨w.heap.size, 0, none⟩)) ∧ WAt w.heap.size (.slice none 0 0) [] 0 w' ∧ Below w.heap.size w w' := by
  go_enter Tryz.func92, Tryz.ntmps92
  go_wp2
  go_ret
  refine ⟨rfl, ⟨?_, World.ownsRow_nil _ _ _ _, by simp [Value.ownBlock]⟩, (Below.refl _ _).alloc (Nat.le_refl _) _⟩
  exact heap_alloc_new _ _
theorem sized_any (size : Int) (w : World) :
    Calls Tryz.prog 124 #[.int .i64 size] w fun e w' => e = .returned (.bool (decide (1 ≤ size ∧ size ≤ 8))) ∧ w' = w := by
  by_cases h1 : 1 ≤ size
  · by_cases h8 : size ≤ 8
    · have hd : decide (1 ≤ size ∧ size ≤ 8) = true := by simp; omega
      rw [hd]
      go_enter Tryz.func124, Tryz.ntmps124
      go_wp2
      go_ret
      exact ⟨ret_bool (by simp), rfl⟩
    · have hd : decide (1 ≤ size ∧ size ≤ 8) = false := by simp; omega
      rw [hd]
      go_enter Tryz.func124, Tryz.ntmps124
      go_wp2
      go_ret
      exact ⟨ret_bool (by simp), rfl⟩
  · have hd : decide (1 ≤ size ∧ size ≤ 8) = false := by simp; omega
    have hd1 : decide (1 ≤ size) = false := by simp; omega
    rw [hd]
    go_enter Tryz.func124, Tryz.ntmps124
    go_wp2
    go_ret
    exact ⟨ret_bool (by simp), rfl⟩
theorem bounded_any (most : Int) (w : World) :
    Calls Tryz.prog 138 #[.int .i64 most] w fun e w' => e = .returned (.bool (decide (0 ≤ most ∧ most ≤ 65535))) ∧ w' = w := by
  by_cases h1 : 0 ≤ most
  · by_cases h8 : most ≤ 65535
    · have hd : decide (0 ≤ most ∧ most ≤ 65535) = true := by simp; omega
      rw [hd]
      go_enter Tryz.func138, Tryz.ntmps138
      go_wp2
      go_ret
      exact ⟨ret_bool (by simp), rfl⟩
    · have hd : decide (0 ≤ most ∧ most ≤ 65535) = false := by simp; omega
      rw [hd]
      go_enter Tryz.func138, Tryz.ntmps138
      go_wp2
      go_ret
      exact ⟨ret_bool (by simp), rfl⟩
  · have hd : decide (0 ≤ most ∧ most ≤ 65535) = false := by simp; omega
    have hd1 : decide (0 ≤ most) = false := by simp; omega
    rw [hd]
    go_enter Tryz.func138, Tryz.ntmps138
    go_wp2
    go_ret
    exact ⟨ret_bool (by simp), rfl⟩
/-- By how many bytes a text's length stands. -/
def ahd (most : Int) : Nat := if most ≤ 255 then 1 else 2
theorem lengthSize_any (most : Int) (w : World) :
    Calls Tryz.prog 139 #[.int .i64 most] w fun e w' => e = .returned (.int .i64 (ahd most)) ∧ w' = w := by
  by_cases h : most ≤ 255
  · have e : ahd most = 1 := by simp [ahd, h]
    rw [e]
    go_enter Tryz.func139, Tryz.ntmps139
    go_wp2
    go_ret
    exact ⟨rfl, rfl⟩
  · have e : ahd most = 2 := by simp [ahd, h]
    rw [e]
    go_enter Tryz.func139, Tryz.ntmps139
    go_wp2
    go_ret
    exact ⟨rfl, rfl⟩
/-- A number stands by so many bytes. -/
def stn (size : Nat) (n : Int) : Prop := 0 ≤ n ∧ n < 256 ^ size
theorem stands_any (size : Nat) (n : Int) (w : World) (h1 : 1 ≤ size) (h8 : size ≤ 8) (hn : n ≤ 9223372036854775807) (ok : Bool) (hok : ok = true ↔ stn size n) :
    Calls Tryz.prog 125 #[.int .i64 size, .int .i64 n] w fun e w' => e = .returned (.bool ok) ∧ w' = w := by
  unfold stn at hok
  by_cases h0 : 0 ≤ n
  · rcases (by omega : size = 1 ∨ size = 2 ∨ size = 3 ∨ size = 4 ∨ size = 5 ∨ size = 6 ∨ size = 7 ∨ size = 8) with rfl | rfl | rfl | rfl | rfl | rfl | rfl | rfl
    all_goals
      simp only [Int.reducePow] at hok
      have HOK := hide hok
      clear hok h1 h8
      go_enter Tryz.func125, Tryz.ntmps125
      go_wp2
      go_ret
      refine ⟨ret_bool ?_, rfl⟩
      have hok := unhide HOK
      rw [Bool.eq_iff_iff]
      rw [hok]
      simp
      omega
  · have hf : ok = false := by
      cases ok
      · rfl
      · exact absurd (hok.1 rfl).1 h0
    subst hf
    clear hok
    have hd : decide (0 ≤ n) = false := by simp; omega
    go_enter Tryz.func125, Tryz.ntmps125
    go_wp2
    go_ret
    exact ⟨ret_bool (by simp), rfl⟩
end Go.Proofs.YtmjaobddgaglhaaGreatDoor
namespace Go.Proofs.YtmjaobddgaglhaaGreatDoor
open Go.RowKit Go.Lib
theorem WAt.stored {b : Nat} {v v' : Value} {X X' : List UInt8} {E : Nat} {w w2 : World} (h : WAt b v X E w) (hown : w2.ownsRow 0 5 1 v' X'.length (X'.map B)) (ho : Only (fun k => v.ownBlock = some k) w w2) (hf : ∀ k, v'.ownBlock = some k → v.ownBlock = some k ∨ w.heap.size ≤ k) :
    WAt b v' X' E (w2.setCell ⟨b, 0, none⟩ v') ∧ Only (foot b v) w (w2.setCell ⟨b, 0, none⟩ v') := by
  have hlt := lt_of_row h.row
  have hrow : w2.heap[b]? = some (.cells #[v, errV E] 161 (0, 0)) := (ho.block b hlt h.ne).trans h.row
  have hne : v'.ownBlock ≠ some b := by
    intro q
    rcases hf b q with r | r
    · exact h.ne r
    · omega
  have hr := heap_setCell_same w2 b 0 _ 161 v' hrow
  refine ⟨⟨by simpa using hr, ownsF_same hown (fun k hk => heap_setCell_other w2 ⟨b, 0, none⟩ k _ (fun e => hne (by rw [hk, e]))), hne⟩, ?_⟩
  have o2 := Only.setCell w2 ⟨b, 0, none⟩ v'
  exact ⟨o2.os.trans ho.os, o2.tape.trans ho.tape, o2.output.trans ho.output, Nat.le_trans ho.size o2.size, fun k hk hp => (o2.block k (Nat.lt_of_lt_of_le hk ho.size) (fun e => hp (.inl e))).trans (ho.block k hk (fun e => hp (.inr e)))⟩
theorem Only.left_drew {P : Nat → Prop} {w w' : World} (h : Only P w.drew w') : Only P w w' := ⟨h.os, h.tape, h.output, h.size, h.block⟩
set_option maxHeartbeats 4000000 in
set_option maxRecDepth 8000 in
theorem lay_any (b : Nat) (v : Value) (X : List UInt8) (size n : Nat) (w : World) (h : WAt b v X 0 w) (h8 : size ≤ 8) (_hn : n < 9223372036854775808) (hX : X.length ≤ 70368744177664) :
    Calls Tryz.prog 126 #[.pointer (some ⟨b, 0, none⟩), .int .i64 size, .int .i64 n] w fun e w' => e = .returned (.tuple #[]) ∧ WTo b v (X ++ be size n) 0 w w' := by
  have H := hide h
  clear h
  go_enter Tryz.func126, Tryz.ntmps126
  go_wp2
  go_loopw [6] (fun i wr => ∃ k : Nat, k ≤ size ∧ i = .int .i64 ((size : Int) - 1 - (k : Int)) ∧ WTo b v (X ++ (be size n).take k) 0 w wr) (fun i _ => (intOf i + 1).toNat)
  case atStart => exact ⟨0, by omega, by simp, by simpa using WTo.same (unhide H)⟩
  case round =>
    clear H
    obtain ⟨k, hk, rfl, v1, h1, ho1, hf1⟩ := hrel
    by_cases hlt : k < size
    · obtain ⟨j, hj⟩ : ∃ j : Nat, size - 1 - k = j := ⟨_, rfl⟩
      have hji : (size : Int) - 1 - (k : Int) = (j : Int) := by omega
      have HNX := hide (be_next size n k hlt)
      rw [hj] at HNX
      have hj8 : j < 8 := by omega
      have hxl : (X ++ (be size n).take k).length ≤ 70368744177672 := by rw [List.length_append, List.length_take, be_len]; omega
      generalize (be size n).take k = Y at *
      have c0 := h1.c0
      have f0 := h1.fz 0
      have hblt := lt_of_row h1.row
      have HW := hide h1
      have HO := hide ho1
      have HF := hide hf1
      clear h1 ho1 hf1
      rw [hji]
      rcases (by omega : j = 0 ∨ j = 1 ∨ j = 2 ∨ j = 3 ∨ j = 4 ∨ j = 5 ∨ j = 6 ∨ j = 7) with rfl | rfl | rfl | rfl | rfl | rfl | rfl | rfl
      all_goals go_wp2
      · have HM : Hid (256 ^ 0 = 1) := hide (by decide)
        rw [unhide HM] at HNX
        have hw8 : IntKind.i64.wrap 0 = 0 := by decide
        go_region_law (refine step_push rfl (.tmp 17) (.tmp 23) rfl v1 (X ++ Y) (by rfl) wr.drew _ (UInt8.ofNat (n / 1)) (by first | (rw [IntKind.wrap_u8, UInt8.toNat_ofNat']; omega) | (rw [UInt8.toNat_ofNat']; omega)) (unhide HW).own (by rfl) (by omega) ?_; intro p2 cap2 w2 hown2 hon2 hfr2; generalize hl2 : (X ++ Y ++ [UInt8.ofNat (n / 1)]).length = len2 at *; have HL2 := hide hl2; clear hl2; have c2 : w2.cell? ⟨b, 0, none⟩ = some v1 := (Only.left_drew hon2 |> fun o => World.cell?_of_block (o.block b (lt_of_row (unhide HW).row) (unhide HW).ne)).trans (unhide HW).c0; have f2 : w2.frozen? ⟨b, 0, none⟩ = false := by (have o := Only.left_drew hon2; unfold World.frozen?; rw [o.block b (lt_of_row (unhide HW).row) (unhide HW).ne]; exact (unhide HW).fz 0))
        all_goals go_wp2
        all_goals (
          go_roundw
          case rel =>
            have hl2 := unhide HL2
            subst hl2
            obtain ⟨hA, hO⟩ := (unhide HW).stored hown2 (Only.left_drew hon2) hfr2
            refine ⟨k + 1, by omega, by first | (simp; omega) | (congr 1; omega), ?_⟩
            rw [unhide HNX, ← List.append_assoc]
            exact WTo.step (unhide HO) (unhide HF) ⟨_, hA, hO, hfr2⟩
          case measure => first | (simp [intOf]; done) | (simp [intOf]; omega))
      · have HM : Hid (256 ^ 1 = 256) := hide (by decide)
        rw [unhide HM] at HNX
        have hw8 : IntKind.i64.wrap 8 = 8 := by decide
        go_region_law (refine step_push rfl (.tmp 17) (.tmp 23) rfl v1 (X ++ Y) (by rfl) wr.drew _ (UInt8.ofNat (n / 256)) (by first | (rw [IntKind.wrap_u8, UInt8.toNat_ofNat']; omega) | (rw [UInt8.toNat_ofNat']; omega)) (unhide HW).own (by rfl) (by omega) ?_; intro p2 cap2 w2 hown2 hon2 hfr2; generalize hl2 : (X ++ Y ++ [UInt8.ofNat (n / 256)]).length = len2 at *; have HL2 := hide hl2; clear hl2; have c2 : w2.cell? ⟨b, 0, none⟩ = some v1 := (Only.left_drew hon2 |> fun o => World.cell?_of_block (o.block b (lt_of_row (unhide HW).row) (unhide HW).ne)).trans (unhide HW).c0; have f2 : w2.frozen? ⟨b, 0, none⟩ = false := by (have o := Only.left_drew hon2; unfold World.frozen?; rw [o.block b (lt_of_row (unhide HW).row) (unhide HW).ne]; exact (unhide HW).fz 0))
        all_goals go_wp2
        all_goals (
          go_roundw
          case rel =>
            have hl2 := unhide HL2
            subst hl2
            obtain ⟨hA, hO⟩ := (unhide HW).stored hown2 (Only.left_drew hon2) hfr2
            refine ⟨k + 1, by omega, by first | (simp; omega) | (congr 1; omega), ?_⟩
            rw [unhide HNX, ← List.append_assoc]
            exact WTo.step (unhide HO) (unhide HF) ⟨_, hA, hO, hfr2⟩
          case measure => first | (simp [intOf]; done) | (simp [intOf]; omega))
      · have HM : Hid (256 ^ 2 = 65536) := hide (by decide)
        rw [unhide HM] at HNX
        have hw8 : IntKind.i64.wrap 16 = 16 := by decide
        go_region_law (refine step_push rfl (.tmp 17) (.tmp 23) rfl v1 (X ++ Y) (by rfl) wr.drew _ (UInt8.ofNat (n / 65536)) (by first | (rw [IntKind.wrap_u8, UInt8.toNat_ofNat']; omega) | (rw [UInt8.toNat_ofNat']; omega)) (unhide HW).own (by rfl) (by omega) ?_; intro p2 cap2 w2 hown2 hon2 hfr2; generalize hl2 : (X ++ Y ++ [UInt8.ofNat (n / 65536)]).length = len2 at *; have HL2 := hide hl2; clear hl2; have c2 : w2.cell? ⟨b, 0, none⟩ = some v1 := (Only.left_drew hon2 |> fun o => World.cell?_of_block (o.block b (lt_of_row (unhide HW).row) (unhide HW).ne)).trans (unhide HW).c0; have f2 : w2.frozen? ⟨b, 0, none⟩ = false := by (have o := Only.left_drew hon2; unfold World.frozen?; rw [o.block b (lt_of_row (unhide HW).row) (unhide HW).ne]; exact (unhide HW).fz 0))
        all_goals go_wp2
        all_goals (
          go_roundw
          case rel =>
            have hl2 := unhide HL2
            subst hl2
            obtain ⟨hA, hO⟩ := (unhide HW).stored hown2 (Only.left_drew hon2) hfr2
            refine ⟨k + 1, by omega, by first | (simp; omega) | (congr 1; omega), ?_⟩
            rw [unhide HNX, ← List.append_assoc]
            exact WTo.step (unhide HO) (unhide HF) ⟨_, hA, hO, hfr2⟩
          case measure => first | (simp [intOf]; done) | (simp [intOf]; omega))
      · have HM : Hid (256 ^ 3 = 16777216) := hide (by decide)
        rw [unhide HM] at HNX
        have hw8 : IntKind.i64.wrap 24 = 24 := by decide
        go_region_law (refine step_push rfl (.tmp 17) (.tmp 23) rfl v1 (X ++ Y) (by rfl) wr.drew _ (UInt8.ofNat (n / 16777216)) (by first | (rw [IntKind.wrap_u8, UInt8.toNat_ofNat']; omega) | (rw [UInt8.toNat_ofNat']; omega)) (unhide HW).own (by rfl) (by omega) ?_; intro p2 cap2 w2 hown2 hon2 hfr2; generalize hl2 : (X ++ Y ++ [UInt8.ofNat (n / 16777216)]).length = len2 at *; have HL2 := hide hl2; clear hl2; have c2 : w2.cell? ⟨b, 0, none⟩ = some v1 := (Only.left_drew hon2 |> fun o => World.cell?_of_block (o.block b (lt_of_row (unhide HW).row) (unhide HW).ne)).trans (unhide HW).c0; have f2 : w2.frozen? ⟨b, 0, none⟩ = false := by (have o := Only.left_drew hon2; unfold World.frozen?; rw [o.block b (lt_of_row (unhide HW).row) (unhide HW).ne]; exact (unhide HW).fz 0))
        all_goals go_wp2
        all_goals (
          go_roundw
          case rel =>
            have hl2 := unhide HL2
            subst hl2
            obtain ⟨hA, hO⟩ := (unhide HW).stored hown2 (Only.left_drew hon2) hfr2
            refine ⟨k + 1, by omega, by first | (simp; omega) | (congr 1; omega), ?_⟩
            rw [unhide HNX, ← List.append_assoc]
            exact WTo.step (unhide HO) (unhide HF) ⟨_, hA, hO, hfr2⟩
          case measure => first | (simp [intOf]; done) | (simp [intOf]; omega))
      · have HM : Hid (256 ^ 4 = 4294967296) := hide (by decide)
        rw [unhide HM] at HNX
        have hw8 : IntKind.i64.wrap 32 = 32 := by decide
        go_region_law (refine step_push rfl (.tmp 17) (.tmp 23) rfl v1 (X ++ Y) (by rfl) wr.drew _ (UInt8.ofNat (n / 4294967296)) (by first | (rw [IntKind.wrap_u8, UInt8.toNat_ofNat']; omega) | (rw [UInt8.toNat_ofNat']; omega)) (unhide HW).own (by rfl) (by omega) ?_; intro p2 cap2 w2 hown2 hon2 hfr2; generalize hl2 : (X ++ Y ++ [UInt8.ofNat (n / 4294967296)]).length = len2 at *; have HL2 := hide hl2; clear hl2; have c2 : w2.cell? ⟨b, 0, none⟩ = some v1 := (Only.left_drew hon2 |> fun o => World.cell?_of_block (o.block b (lt_of_row (unhide HW).row) (unhide HW).ne)).trans (unhide HW).c0; have f2 : w2.frozen? ⟨b, 0, none⟩ = false := by (have o := Only.left_drew hon2; unfold World.frozen?; rw [o.block b (lt_of_row (unhide HW).row) (unhide HW).ne]; exact (unhide HW).fz 0))
        all_goals go_wp2
        all_goals (
          go_roundw
          case rel =>
            have hl2 := unhide HL2
            subst hl2
            obtain ⟨hA, hO⟩ := (unhide HW).stored hown2 (Only.left_drew hon2) hfr2
            refine ⟨k + 1, by omega, by first | (simp; omega) | (congr 1; omega), ?_⟩
            rw [unhide HNX, ← List.append_assoc]
            exact WTo.step (unhide HO) (unhide HF) ⟨_, hA, hO, hfr2⟩
          case measure => first | (simp [intOf]; done) | (simp [intOf]; omega))
      · have HM : Hid (256 ^ 5 = 1099511627776) := hide (by decide)
        rw [unhide HM] at HNX
        have hw8 : IntKind.i64.wrap 40 = 40 := by decide
        go_region_law (refine step_push rfl (.tmp 17) (.tmp 23) rfl v1 (X ++ Y) (by rfl) wr.drew _ (UInt8.ofNat (n / 1099511627776)) (by first | (rw [IntKind.wrap_u8, UInt8.toNat_ofNat']; omega) | (rw [UInt8.toNat_ofNat']; omega)) (unhide HW).own (by rfl) (by omega) ?_; intro p2 cap2 w2 hown2 hon2 hfr2; generalize hl2 : (X ++ Y ++ [UInt8.ofNat (n / 1099511627776)]).length = len2 at *; have HL2 := hide hl2; clear hl2; have c2 : w2.cell? ⟨b, 0, none⟩ = some v1 := (Only.left_drew hon2 |> fun o => World.cell?_of_block (o.block b (lt_of_row (unhide HW).row) (unhide HW).ne)).trans (unhide HW).c0; have f2 : w2.frozen? ⟨b, 0, none⟩ = false := by (have o := Only.left_drew hon2; unfold World.frozen?; rw [o.block b (lt_of_row (unhide HW).row) (unhide HW).ne]; exact (unhide HW).fz 0))
        all_goals go_wp2
        all_goals (
          go_roundw
          case rel =>
            have hl2 := unhide HL2
            subst hl2
            obtain ⟨hA, hO⟩ := (unhide HW).stored hown2 (Only.left_drew hon2) hfr2
            refine ⟨k + 1, by omega, by first | (simp; omega) | (congr 1; omega), ?_⟩
            rw [unhide HNX, ← List.append_assoc]
            exact WTo.step (unhide HO) (unhide HF) ⟨_, hA, hO, hfr2⟩
          case measure => first | (simp [intOf]; done) | (simp [intOf]; omega))
      · have HM : Hid (256 ^ 6 = 281474976710656) := hide (by decide)
        rw [unhide HM] at HNX
        have hw8 : IntKind.i64.wrap 48 = 48 := by decide
        go_region_law (refine step_push rfl (.tmp 17) (.tmp 23) rfl v1 (X ++ Y) (by rfl) wr.drew _ (UInt8.ofNat (n / 281474976710656)) (by first | (rw [IntKind.wrap_u8, UInt8.toNat_ofNat']; omega) | (rw [UInt8.toNat_ofNat']; omega)) (unhide HW).own (by rfl) (by omega) ?_; intro p2 cap2 w2 hown2 hon2 hfr2; generalize hl2 : (X ++ Y ++ [UInt8.ofNat (n / 281474976710656)]).length = len2 at *; have HL2 := hide hl2; clear hl2; have c2 : w2.cell? ⟨b, 0, none⟩ = some v1 := (Only.left_drew hon2 |> fun o => World.cell?_of_block (o.block b (lt_of_row (unhide HW).row) (unhide HW).ne)).trans (unhide HW).c0; have f2 : w2.frozen? ⟨b, 0, none⟩ = false := by (have o := Only.left_drew hon2; unfold World.frozen?; rw [o.block b (lt_of_row (unhide HW).row) (unhide HW).ne]; exact (unhide HW).fz 0))
        all_goals go_wp2
        all_goals (
          go_roundw
          case rel =>
            have hl2 := unhide HL2
            subst hl2
            obtain ⟨hA, hO⟩ := (unhide HW).stored hown2 (Only.left_drew hon2) hfr2
            refine ⟨k + 1, by omega, by first | (simp; omega) | (congr 1; omega), ?_⟩
            rw [unhide HNX, ← List.append_assoc]
            exact WTo.step (unhide HO) (unhide HF) ⟨_, hA, hO, hfr2⟩
          case measure => first | (simp [intOf]; done) | (simp [intOf]; omega))
      · have HM : Hid (256 ^ 7 = 72057594037927936) := hide (by decide)
        rw [unhide HM] at HNX
        have hw8 : IntKind.i64.wrap 56 = 56 := by decide
        go_region_law (refine step_push rfl (.tmp 17) (.tmp 23) rfl v1 (X ++ Y) (by rfl) wr.drew _ (UInt8.ofNat (n / 72057594037927936)) (by first | (rw [IntKind.wrap_u8, UInt8.toNat_ofNat']; omega) | (rw [UInt8.toNat_ofNat']; omega)) (unhide HW).own (by rfl) (by omega) ?_; intro p2 cap2 w2 hown2 hon2 hfr2; generalize hl2 : (X ++ Y ++ [UInt8.ofNat (n / 72057594037927936)]).length = len2 at *; have HL2 := hide hl2; clear hl2; have c2 : w2.cell? ⟨b, 0, none⟩ = some v1 := (Only.left_drew hon2 |> fun o => World.cell?_of_block (o.block b (lt_of_row (unhide HW).row) (unhide HW).ne)).trans (unhide HW).c0; have f2 : w2.frozen? ⟨b, 0, none⟩ = false := by (have o := Only.left_drew hon2; unfold World.frozen?; rw [o.block b (lt_of_row (unhide HW).row) (unhide HW).ne]; exact (unhide HW).fz 0))
        all_goals go_wp2
        all_goals (
          go_roundw
          case rel =>
            have hl2 := unhide HL2
            subst hl2
            obtain ⟨hA, hO⟩ := (unhide HW).stored hown2 (Only.left_drew hon2) hfr2
            refine ⟨k + 1, by omega, by first | (simp; omega) | (congr 1; omega), ?_⟩
            rw [unhide HNX, ← List.append_assoc]
            exact WTo.step (unhide HO) (unhide HF) ⟨_, hA, hO, hfr2⟩
          case measure => first | (simp [intOf]; done) | (simp [intOf]; omega))
    · have hkk : k = size := by omega
      subst hkk
      have hfull : (be k n).take k = be k n := List.take_of_length_le (by rw [be_len]; omega)
      rw [hfull] at h1
      have hres := hide (show WTo b v (X ++ be k n) 0 w wr from ⟨v1, h1, ho1, hf1⟩)
      clear h1 ho1 hf1 hfull
      have e1 : (k : Int) - 1 - (k : Int) = -1 := by omega
      rw [e1]
      go_wp2
      go_end0
      exact ⟨rfl, unhide hres⟩
end Go.Proofs.YtmjaobddgaglhaaGreatDoor
namespace Go.Proofs.YtmjaobddgaglhaaGreatDoor
open Go.RowKit Go.Lib
def stnB (size : Nat) (n : Int) : Bool := decide (0 ≤ n ∧ n < 256 ^ size)
theorem stnB_iff (size : Nat) (n : Int) : stnB size n = true ↔ stn size n := by simp [stnB, stn]
/-- What is wrong with Num. -/
def numE (size n : Int) : Nat := if 1 ≤ size ∧ size ≤ 8 then (if stnB size.toNat n = true then 0 else 20) else 1
/-- What is wrong with Text. -/
def textE (most : Int) (len : Nat) : Nat := if 0 ≤ most ∧ most ≤ 65535 then (if (len : Int) ≤ most then 0 else 21) else 1
/-- A Writer behind a call: what it has, what is wrong. -/
def wPut (X : List UInt8) (E e : Nat) (Y : List UInt8) : List UInt8 × Nat := if E ≠ 0 then (X, E) else if e ≠ 0 then (X, e) else (X ++ Y, 0)
theorem wPut_old {X : List UInt8} {E e : Nat} {Y : List UInt8} (h : E ≠ 0) : wPut X E e Y = (X, E) := by simp [wPut, h]
theorem wPut_bad {X : List UInt8} {e : Nat} {Y : List UInt8} (h : e ≠ 0) : wPut X 0 e Y = (X, e) := by simp [wPut, h]
theorem wPut_ok {X : List UInt8} {Y : List UInt8} : wPut X 0 0 Y = (X ++ Y, 0) := by simp [wPut]
def numY (size n : Int) : List UInt8 := be size.toNat n.toNat
def textY (most : Int) (s : List UInt8) : List UInt8 := be (ahd most) s.length ++ s
set_option maxHeartbeats 1000000 in
theorem wraw_any (b : Nat) (v : Value) (X : List UInt8) (E : Nat) (s : List UInt8) (w : World) (h : WAt b v X E w) (hX : X.length + s.length ≤ 70368744177664) :
    Calls Tryz.prog 93 #[.pointer (some ⟨b, 0, none⟩), .string ⟨s.toArray⟩] w fun e w' => e = .returned (.tuple #[]) ∧ WTo b v (wPut X E 0 s).1 (wPut X E 0 s).2 w w' := by
  have c0 := h.c0
  have c1 := h.c1
  have f0 := h.fz 0
  by_cases hE : E = 0
  · subst hE
    rw [wPut_ok]
    rw [errV_0] at c1
    have H := hide h
    clear h
    go_enter Tryz.func93, Tryz.ntmps93
    go_wp2_with (at_builtin; refine own_text rfl (.tmp 13) (.tmp 14) rfl v X (by rfl) (unhide H).own s (by rfl) (by omega) ?_; intro p2 cap2 w2 hown2 hon2 hfr2; generalize hl2 : (X ++ s).length = len2 at *; have HL2 := hide hl2; clear hl2; have c2 : w2.cell? ⟨b, 0, none⟩ = some v := (World.cell?_of_block (hon2.block b (lt_of_row (unhide H).row) (unhide H).ne)).trans (unhide H).c0; have f2 : w2.frozen? ⟨b, 0, none⟩ = false := by (unfold World.frozen?; rw [hon2.block b (lt_of_row (unhide H).row) (unhide H).ne]; exact (unhide H).fz 0))
    go_end0
    have hl2 := unhide HL2
    subst hl2
    obtain ⟨hA, hO⟩ := (unhide H).stored hown2 hon2 hfr2
    exact ⟨rfl, _, hA, hO, hfr2⟩
  · rw [wPut_old hE]
    rw [errV_ne hE] at c1
    have H := hide h
    clear h
    go_enter Tryz.func93, Tryz.ntmps93
    go_wp2
    go_end0
    exact ⟨rfl, WTo.same (unhide H)⟩
set_option maxHeartbeats 1000000 in
theorem wnum_any (b : Nat) (v : Value) (X : List UInt8) (E : Nat) (size n : Int) (w : World) (h : WAt b v X E w) (hn : n ≤ 9223372036854775807) (hX : X.length ≤ 70368744177664) :
    Calls Tryz.prog 94 #[.pointer (some ⟨b, 0, none⟩), .int .i64 size, .int .i64 n] w fun e w' => e = .returned (.tuple #[]) ∧ WTo b v (wPut X E (numE size n) (numY size n)).1 (wPut X E (numE size n) (numY size n)).2 w w' := by
  have c1 := h.c1
  have f1 := h.fz 1
  by_cases hE : E = 0
  · subst hE
    rw [errV_0] at c1
    have H := hide h
    clear h
    by_cases hs : 1 ≤ size ∧ size ≤ 8
    · obtain ⟨k, hk⟩ : ∃ k : Nat, size = (k : Int) := ⟨size.toNat, by omega⟩
      subst hk
      have hk1 : 1 ≤ k := by omega
      have hk8 : k ≤ 8 := by omega
      have hsd : decide (1 ≤ (k : Int) ∧ (k : Int) ≤ 8) = true := by simpa using hs
      by_cases hst : stnB k n = true
      · have he : numE k n = 0 := by simp [numE, hs, hst]
        obtain ⟨m, hm⟩ : ∃ m : Nat, n = (m : Int) := ⟨n.toNat, by have := (stnB_iff k n).1 hst; unfold stn at this; omega⟩
        subst hm
        rw [he, wPut_ok]
        have hy : numY k m = be k m := by simp [numY]
        rw [hy]
        have hst' := stands_any k (m : Int) w hk1 hk8 hn true (by rw [← stnB_iff, hst])
        have HST := hide hst'
        clear hs hst he hy hst'
        go_enter Tryz.func94, Tryz.ntmps94
        go_wp2_with fail
        refine (sized_any (k : Int) w).mono ?_
        rintro e w' ⟨rfl, rfl⟩
        rw [hsd]
        go_wp2_with fail
        refine (unhide HST).mono ?_
        rintro e w'' ⟨rfl, rfl⟩
        go_wp2_with fail
        refine (lay_any b v X k m w'' (unhide H) hk8 (by omega) hX).mono ?_
        rintro e w3 ⟨rfl, hto⟩
        go_wp2
        go_end0
        exact ⟨rfl, hto⟩
      · have hst0 : stnB k n = false := by simpa using hst
        have he : numE k n = 20 := by simp [numE, hs, hst0]
        rw [he, wPut_bad (by decide)]
        have hst' := stands_any k n w hk1 hk8 hn false (by rw [← stnB_iff, hst0])
        have HST := hide hst'
        clear hs hst he hst' hst0
        go_enter Tryz.func94, Tryz.ntmps94
        go_wp2_with fail
        refine (sized_any (k : Int) w).mono ?_
        rintro e w' ⟨rfl, rfl⟩
        rw [hsd]
        go_wp2_with fail
        refine (unhide HST).mono ?_
        rintro e w'' ⟨rfl, rfl⟩
        go_wp2
        go_end0
        exact ⟨rfl, WTo.err (E' := 20) (unhide H)⟩
    · have he : numE size n = 1 := by simp [numE, hs]
      have hsd : decide (1 ≤ size ∧ size ≤ 8) = false := by simpa using hs
      rw [he, wPut_bad (by decide)]
      clear hs he
      go_enter Tryz.func94, Tryz.ntmps94
      go_wp2_with fail
      refine (sized_any size w).mono ?_
      rintro e w' ⟨rfl, rfl⟩
      rw [hsd]
      go_wp2
      go_end0
      exact ⟨rfl, WTo.err (E' := 1) (unhide H)⟩
  · rw [wPut_old hE]
    rw [errV_ne hE] at c1
    have H := hide h
    clear h
    go_enter Tryz.func94, Tryz.ntmps94
    go_wp2
    go_end0
    exact ⟨rfl, WTo.same (unhide H)⟩
theorem be1_len (most : Int) (n : Nat) : (be (ahd most) n).length ≤ 2 := by rw [be_len]; unfold ahd; split <;> omega
set_option maxHeartbeats 1000000 in
theorem wtext_any (b : Nat) (v : Value) (X : List UInt8) (E : Nat) (most : Int) (s : List UInt8) (w : World) (h : WAt b v X E w) (hX : X.length + s.length + 2 ≤ 70368744177664) :
    Calls Tryz.prog 111 #[.pointer (some ⟨b, 0, none⟩), .int .i64 most, .string ⟨s.toArray⟩] w fun e w' => e = .returned (.tuple #[]) ∧ WTo b v (wPut X E (textE most s.length) (textY most s)).1 (wPut X E (textE most s.length) (textY most s)).2 w w' := by
  have c1 := h.c1
  have f1 := h.fz 1
  by_cases hE : E = 0
  · subst hE
    rw [errV_0] at c1
    have H := hide h
    clear h
    by_cases hs : 0 ≤ most ∧ most ≤ 65535
    · have hsd : decide (0 ≤ most ∧ most ≤ 65535) = true := by simpa using hs
      by_cases hl : (s.length : Int) ≤ most
      · have he : textE most s.length = 0 := by simp [textE, hs, hl]
        rw [he, wPut_ok]
        have ha8 : ahd most ≤ 8 := by unfold ahd; split <;> omega
        have hbl := be1_len most s.length
        have hld : decide ((s.length : Int) > most) = false := by simp; omega
        have hs2 := hs.2
        clear hs he
        go_enter Tryz.func111, Tryz.ntmps111
        go_wp2_with fail
        refine (bounded_any most w).mono ?_
        rintro e w' ⟨rfl, rfl⟩
        rw [hsd]
        go_wp2_with fail
        refine (lengthSize_any most w').mono ?_
        rintro e w'' ⟨rfl, rfl⟩
        go_wp2_with fail
        refine (lay_any b v X (ahd most) s.length w'' (unhide H) ha8 (by omega) (by omega)).mono ?_
        rintro e w3 ⟨rfl, v3, hA3, hO3, hf3⟩
        have HA3 := hide hA3
        clear hA3
        go_wp2_with fail
        refine (wraw_any b v3 (X ++ be (ahd most) s.length) 0 s w3 (unhide HA3) (by rw [List.length_append]; omega)).mono ?_
        rintro e w4 ⟨rfl, hto⟩
        rw [wPut_ok] at hto
        go_wp2
        go_end0
        refine ⟨rfl, WTo.step hO3 hf3 ?_⟩
        rw [textY, ← List.append_assoc]
        exact hto
      · have he : textE most s.length = 21 := by simp [textE, hs, hl]
        rw [he, wPut_bad (by decide)]
        have hld : decide ((s.length : Int) > most) = true := by simp; omega
        clear hs he
        go_enter Tryz.func111, Tryz.ntmps111
        go_wp2_with fail
        refine (bounded_any most w).mono ?_
        rintro e w' ⟨rfl, rfl⟩
        rw [hsd]
        go_wp2
        go_end0
        exact ⟨rfl, WTo.err (E' := 21) (unhide H)⟩
    · have he : textE most s.length = 1 := by simp [textE, hs]
      have hsd : decide (0 ≤ most ∧ most ≤ 65535) = false := by simpa using hs
      rw [he, wPut_bad (by decide)]
      clear hs he
      go_enter Tryz.func111, Tryz.ntmps111
      go_wp2_with fail
      refine (bounded_any most w).mono ?_
      rintro e w' ⟨rfl, rfl⟩
      rw [hsd]
      go_wp2
      go_end0
      exact ⟨rfl, WTo.err (E' := 1) (unhide H)⟩
  · rw [wPut_old hE]
    rw [errV_ne hE] at c1
    have H := hide h
    clear h
    go_enter Tryz.func111, Tryz.ntmps111
    go_wp2
    go_end0
    exact ⟨rfl, WTo.same (unhide H)⟩
theorem as_nil (t : Value) (w : World) :
    Calls Tryz.prog 128 #[.nilIface, t] w fun e w' => e = .returned (.bool false) ∧ w' = w := by
  go_enter Tryz.func128, Tryz.ntmps128
  go_wp2
  go_ret
  exact ⟨rfl, rfl⟩
set_option maxHeartbeats 1000000 in
theorem wdone_ok (b : Nat) (v : Value) (X : List UInt8) (w : World) (h : WAt b v X 0 w) :
    Calls Tryz.prog 96 #[.pointer (some ⟨b, 0, none⟩)] w fun e w' => e = .returned (.tuple #[.string ⟨X.toArray⟩, .int .i64 0]) ∧ Below w.heap.size w w' := by
  have c0 := h.c0
  have c1 := h.c1
  rw [errV_0] at c1
  have hlt := lt_of_row h.row
  have hk : WAt b v X 0 (w.alloc (.cells #[.int .i64 0] 163)) := h.keep (Only.alloc (fun _ => False) w _) (fun q => q) (fun _ _ q => q)
  have HX := hide hk.text
  clear h hk
  go_enter Tryz.func96, Tryz.ntmps96
  go_wp2_with fail
  refine (as_nil _ _).mono ?_
  rintro e w1 ⟨rfl, rfl⟩
  go_wp2_with (refine wpList_conv rfl 101 9 (.tmp 16) rfl _ _ (by rfl) (unhide HX) ?_)
  go_ret2
  exact ⟨rfl, (Below.refl _ _).alloc (Nat.le_refl _) _⟩
end Go.Proofs.YtmjaobddgaglhaaGreatDoor
namespace Go.Proofs.YtmjaobddgaglhaaGreatDoor
open Go.RowKit
set_option maxHeartbeats 4000000
set_option maxRecDepth 8000
/-- A Writer that came behind w0, and has laid X without a fault. -/
def Wt (w0 : World) (b : Nat) (X : Bs) (w : World) : Prop := ∃ v, WAt b v X 0 w ∧ Below w0.heap.size w0 w ∧ w0.heap.size ≤ b ∧ ∀ k, v.ownBlock = some k → w0.heap.size ≤ k
theorem Wt.to {w0 w w' : World} {b : Nat} {Y : Bs} {v : Value} (hB : Below w0.heap.size w0 w) (hb : w0.heap.size ≤ b) (hv : ∀ k, v.ownBlock = some k → w0.heap.size ≤ k) (h : WTo b v Y 0 w w') : Wt w0 b Y w' := by
  obtain ⟨v', h1, h2, h3⟩ := h
  refine ⟨v', h1, h2.below hB hB.size (fun k hk => ?_), hb, fun k hk => ?_⟩
  · rcases hk with rfl | hk
    · exact hb
    · exact hv k hk
  · rcases h3 k hk with q | q
    · exact hv k q
    · exact Nat.le_trans hB.size q
theorem Wt.new (w0 : World) : Calls Tryz.prog 92 #[] w0 fun e w' => e = .returned (ptr w0.heap.size) ∧ Wt w0 w0.heap.size [] w' := by
  refine (newwriter_any w0).mono ?_
  rintro e w' ⟨rfl, h1, h2⟩
  exact ⟨rfl, _, h1, h2, Nat.le_refl _, fun k hk => by cases hk⟩
theorem Wt.num {w0 w : World} {b : Nat} {X : Bs} (h : Wt w0 b X w) (size : Nat) (n : Int) (s1 : 1 ≤ size) (s8 : size ≤ 8) (n0 : 0 ≤ n) (n1 : n < 256 ^ size) (n2 : n ≤ 9223372036854775807) (hX : X.length ≤ 1000000000) :
    Calls Tryz.prog 94 #[ptr b, I size, I n] w fun e w' => e = .returned (.tuple #[]) ∧ Wt w0 b (X ++ be size n.toNat) w' := by
  obtain ⟨v, h1, h2, h3, h4⟩ := h
  refine (wnum_any b v X 0 size n w h1 n2 (by omega)).mono ?_
  rintro e w' ⟨rfl, hw⟩
  have e1 : numE size n = 0 := by
    have : stnB (size : Int).toNat n = true := by simp [stnB, n0]; exact n1
    unfold numE
    rw [if_pos ⟨by omega, by omega⟩, if_pos this]
  rw [e1, wPut_ok] at hw
  have e2 : numY size n = be size n.toNat := by simp [numY]
  rw [e2] at hw
  exact ⟨rfl, Wt.to h2 h3 h4 hw⟩
theorem Wt.raw {w0 w : World} {b : Nat} {X : Bs} (h : Wt w0 b X w) (s : Bs) (hX : X.length + s.length ≤ 1000000000) :
    Calls Tryz.prog 93 #[ptr b, S s] w fun e w' => e = .returned (.tuple #[]) ∧ Wt w0 b (X ++ s) w' := by
  obtain ⟨v, h1, h2, h3, h4⟩ := h
  refine (wraw_any b v X 0 s w h1 (by omega)).mono ?_
  rintro e w' ⟨rfl, hw⟩
  rw [wPut_ok] at hw
  exact ⟨rfl, Wt.to h2 h3 h4 hw⟩
theorem Wt.done {w0 w : World} {b : Nat} {X : Bs} (h : Wt w0 b X w) :
    Calls Tryz.prog 96 #[ptr b] w fun e w' => e = .returned (.tuple #[S X, I 0]) ∧ Below w0.heap.size w0 w' := by
  obtain ⟨v, h1, h2, h3, h4⟩ := h
  refine (wdone_ok b v X w h1).mono ?_
  rintro e w' ⟨rfl, hw⟩
  exact ⟨rfl, h2.trans (hw.mono h2.size)⟩
theorem Wt.below {w0 w : World} {b : Nat} {X : Bs} (h : Wt w0 b X w) : Below w0.heap.size w0 w := by
  obtain ⟨v, h1, h2, h3, h4⟩ := h
  exact h2
/-- What was laid is kept by whatever leaves the old blocks. -/
theorem Wt.keep {w0 w w' : World} {b : Nat} {X : Bs} (h : Wt w0 b X w) (k : Below w.heap.size w w') : Wt w0 b X w' := by
  obtain ⟨v, h1, h2, h3, h4⟩ := h
  exact ⟨v, h1.keep (Only.of_below (P := fun _ => False) k) (fun q => q) (fun _ _ q => q), h2.trans (k.mono h2.size), h3, h4⟩
end Go.Proofs.YtmjaobddgaglhaaGreatDoor
namespace Go.Proofs.YtmjaobddgaglhaaGreatDoor
open Go.RowKit
set_option maxHeartbeats 4000000
set_option maxRecDepth 8000
theorem Wt.text {w0 w : World} {b : Nat} {X : Bs} (h : Wt w0 b X w) (most : Nat) (s : Bs) (hm : most ≤ 255) (hs : s.length ≤ most) (hX : X.length ≤ 1000000000) :
    Calls Tryz.prog 111 #[ptr b, I most, S s] w fun e w' => e = .returned (.tuple #[]) ∧ Wt w0 b (X ++ (be 1 s.length ++ s)) w' := by
  obtain ⟨v, h1, h2, h3, h4⟩ := h
  refine (wtext_any b v X 0 most s w h1 (by omega)).mono ?_
  rintro e w' ⟨rfl, hw⟩
  have e1 : textE most s.length = 0 := by
    unfold textE
    rw [if_pos ⟨by omega, by omega⟩, if_pos (by omega)]
  have e2 : textY most s = be 1 s.length ++ s := by
    unfold textY ahd
    rw [if_pos (by omega)]
  rw [e1, e2, wPut_ok] at hw
  exact ⟨rfl, Wt.to h2 h3 h4 hw⟩
end Go.Proofs.YtmjaobddgaglhaaGreatDoor
/- A region that draws its order, by an invariant: one goal an operation, not one an order. -/
namespace Go.Proofs.YtmjaobddgaglhaaGreatDoor
variable {P : Program} {ops : Array Oper} {Q : Exit → Act → World → Prop}
def upd (L : Nat → Bool) (i : Nat) : Nat → Bool := fun j => if j = i then true else L j
def left (listed : Array Bool) : Nat → Nat
  | 0 => 0
  | n + 1 => left listed n + (if listed.getD n true = false then 1 else 0)
theorem left_zero {listed : Array Bool} : ∀ {n : Nat}, left listed n = 0 → ∀ i, i < n → listed.getD i true = true := by
  intro n
  induction n with
  | zero => intro _ i hi; omega
  | succ n ih =>
    intro h i hi
    simp only [left] at h
    by_cases e : i = n
    · subst e
      cases hq : listed.getD i true
      · simp [hq] at h
      · rfl
    · exact ih (by omega) i (by omega)
theorem left_set {listed : Array Bool} {i : Nat} (hi : listed.getD i true = false) : ∀ {n : Nat}, i < n → left (listed.setIfInBounds i true) n + 1 = left listed n := by
  have hlt : i < listed.size := by
    rcases Nat.lt_or_ge i listed.size with h' | h'
    · exact h'
    · simp [Array.getElem?_eq_none h'] at hi
  have hself : (listed.setIfInBounds i true).getD i true = true := by simp [hlt]
  have low : ∀ n, n ≤ i → left (listed.setIfInBounds i true) n = left listed n := by
    intro n
    induction n with
    | zero => intro _; rfl
    | succ n ih =>
      intro h
      simp only [left]
      rw [ih (by omega), getD_set_ne true (by omega)]
  intro n
  induction n with
  | zero => intro h; omega
  | succ n ih =>
    intro h
    simp only [left]
    by_cases e : i = n
    · subst e
      rw [low i (Nat.le_refl _), hself, hi]
      simp
    · rw [getD_set_ne true e]
      have := ih (by omega)
      omega
theorem any_inv (I : (Nat → Bool) → Act → World → Prop)
    (hac : ∀ i o, ops[i]? = some o → ∀ e ∈ o.after, Region.binds .any e = true → e.on < i)
    (hstep : ∀ L a w i o, ops[i]? = some o → L i = false → (∀ e ∈ o.after, Region.binds .any e = true → L e.on = true) → I L a w → wpOp P ops Q i (fun a' w' => I (upd L i) a' w') a w)
    (hend : ∀ L a w, (∀ i, i < ops.size → L i = true) → I L a w → Q .normal a w) :
    ∀ fuel listed a w, listed.size = ops.size → left listed ops.size ≤ fuel → I (fun j => listed.getD j false) a w → wpAny P .any ops Q fuel listed a w := by
  have same : ∀ (listed : Array Bool) (j : Nat), j < listed.size → listed.getD j true = listed.getD j false := by
    intro listed j hj; simp [hj]
  have nil : ∀ (listed : Array Bool) (a : Act) (w : World), listed.size = ops.size → I (fun j => listed.getD j false) a w → Region.ready .any ops listed = [] → Q .normal a w := by
    intro listed a w hs hI hr
    refine hend _ a w ?_ hI
    intro i
    induction i using Nat.strongRecOn with
    | ind i ih =>
      intro hi
      cases hq : listed.getD i false
      · exfalso
        have hm : i ∈ Region.ready .any ops listed := by
          rw [mem_ready]
          refine ⟨by rw [same listed i (by omega)]; exact hq, ops[i], by simp [hi], ?_⟩
          intro e he hb
          have hlt := hac i ops[i] (by simp [hi]) e he hb
          exact ih e.on hlt (by omega)
        rw [hr] at hm
        cases hm
      · rfl
  intro fuel
  induction fuel with
  | zero =>
    intro listed a w hs hl hI
    have hr : Region.ready .any ops listed = [] := by
      cases hq : Region.ready .any ops listed with
      | nil => rfl
      | cons x xs =>
        have hm : x ∈ Region.ready .any ops listed := by rw [hq]; simp
        rw [mem_ready] at hm
        obtain ⟨h1, o, ho, _⟩ := hm
        have hlt : x < ops.size := (Array.getElem?_eq_some_iff.1 ho).1
        have := left_zero (listed := listed) (n := ops.size) (by omega) x hlt
        rw [this] at h1
        cases h1
    exact ⟨hr, nil listed a w hs hI hr⟩
  | succ fuel ih =>
    intro listed a w hs hl hI
    refine ⟨nil listed a w hs hI, ?_⟩
    intro i hi
    rw [mem_ready] at hi
    obtain ⟨h1, o, ho, hall⟩ := hi
    have hlt : i < ops.size := (Array.getElem?_eq_some_iff.1 ho).1
    refine wpOp_mono ?_ (hstep (fun j => listed.getD j false) a w i o ho (by rw [← same listed i (by omega)]; exact h1) hall hI)
    intro a' w' hI'
    refine ih (listed.setIfInBounds i true) a' w' (by simpa using hs) (by have := left_set h1 hlt; omega) ?_
    have e : (fun j => (listed.setIfInBounds i true).getD j false) = upd (fun j => listed.getD j false) i := by
      funext j
      unfold upd
      by_cases hj : j = i
      · subst hj
        simp [hs, hlt]
      · rw [if_neg hj, getD_set_ne false (Ne.symm hj)]
    rw [e]
    exact hI'
theorem region_inv {id : Nat} {a : Act} {w : World} (hm : P.follows .mixedOrders = true) (I : (Nat → Bool) → Act → World → Prop)
    (hac : ∀ i o, ops[i]? = some o → ∀ e ∈ o.after, Region.binds .any e = true → e.on < i)
    (h0 : I (fun _ => false) a w.drew)
    (hstep : ∀ L a w i o, ops[i]? = some o → L i = false → (∀ e ∈ o.after, Region.binds .any e = true → L e.on = true) → I L a w → wpOp P ops Q i (fun a' w' => I (upd L i) a' w') a w)
    (hend : ∀ L a w, (∀ i, i < ops.size → L i = true) → I L a w → Q .normal a w) : (Code.region id ops true).wp P Q a w := by
  refine wp_region_any hm ?_
  refine any_inv I hac hstep hend ops.size _ a _ (by simp) ?_ ?_
  · have : ∀ n, n ≤ ops.size → left (Array.replicate ops.size false) n ≤ n := by
      intro n
      induction n with
      | zero => intro _; simp [left]
      | succ n ih => intro h; simp only [left]; have := ih (by omega); split <;> omega
    exact this _ (Nat.le_refl _)
  · have e : (fun j => (Array.replicate ops.size false).getD j false) = fun _ => false := by
      funext j
      by_cases hj : j < ops.size
      · simp [hj]
      · simp [Array.getElem?_eq_none (show (Array.replicate ops.size false).size ≤ j by simp; omega)]
    rw [e]
    exact h0
end Go.Proofs.YtmjaobddgaglhaaGreatDoor
/- A region that draws its order, each of whose operations yields one value, whatever the order: one goal an operation, over a frame of which a few slots are known. -/
namespace Go.Proofs.YtmjaobddgaglhaaGreatDoor
variable {P : Program} {ops : Array Oper} {Q : Exit → Act → World → Prop}
/-- Where an operation lays what it yields. -/
def dstOf (ops : Array Oper) (i : Nat) : Option Tmp := (ops[i]?).bind (·.dst)
/-- The frame behind those operations that came up. -/
def frm (ops : Array Oper) (a0 : Act) (val : Nat → Value) (L : Nat → Bool) : Nat → Act
  | 0 => a0
  | n + 1 => if L n = true then (frm ops a0 val L n).put (dstOf ops n) (val n) else frm ops a0 val L n
theorem put_comm (a : Act) (d e : Option Tmp) (u v : Value) (h : d ≠ e ∨ d = none) : (a.put d u).put e v = (a.put e v).put d u := by
  cases d with
  | none => rfl
  | some x =>
    cases e with
    | none => rfl
    | some y =>
      have hne : x ≠ y := by
        rcases h with h | h
        · intro q; exact h (by rw [q])
        · cases h
      simp only [Act.put]
      rw [Array.setIfInBounds_comm _ _ hne]
theorem frm_upd (a0 : Act) (val : Nat → Value) (L : Nat → Bool) (i : Nat) (hL : L i = false) (hd : ∀ j, j ≠ i → dstOf ops j ≠ dstOf ops i ∨ dstOf ops j = none) :
    ∀ n, frm ops a0 val (upd L i) n = if i < n then (frm ops a0 val L n).put (dstOf ops i) (val i) else frm ops a0 val L n := by
  intro n
  induction n with
  | zero => simp [frm]
  | succ n ih =>
    by_cases e : n = i
    · subst e
      have e1 : upd L n n = true := by simp [upd]
      have e2 : frm ops a0 val L (n + 1) = frm ops a0 val L n := by simp [frm, hL]
      have e3 : frm ops a0 val (upd L n) (n + 1) = (frm ops a0 val (upd L n) n).put (dstOf ops n) (val n) := by simp [frm, e1]
      rw [e3, e2, ih, if_neg (Nat.lt_irrefl n), if_pos (Nat.lt_succ_self n)]
    · have e1 : upd L i n = L n := by simp [upd, e]
      cases hn : L n with
      | false =>
        have e2 : frm ops a0 val L (n + 1) = frm ops a0 val L n := by simp [frm, hn]
        have e3 : frm ops a0 val (upd L i) (n + 1) = frm ops a0 val (upd L i) n := by simp [frm, e1, hn]
        rw [e3, e2, ih]
        by_cases hlt : i < n
        · rw [if_pos hlt, if_pos (show i < n + 1 by omega)]
        · rw [if_neg hlt, if_neg (show ¬ i < n + 1 by omega)]
      | true =>
        have e2 : frm ops a0 val L (n + 1) = (frm ops a0 val L n).put (dstOf ops n) (val n) := by simp [frm, hn]
        have e3 : frm ops a0 val (upd L i) (n + 1) = (frm ops a0 val (upd L i) n).put (dstOf ops n) (val n) := by simp [frm, e1, hn]
        rw [e3, e2, ih]
        by_cases hlt : i < n
        · rw [if_pos hlt, if_pos (show i < n + 1 by omega)]
          exact (put_comm _ _ _ _ _ (hd n e)).symm
        · rw [if_neg hlt, if_neg (show ¬ i < n + 1 by omega)]
theorem put_size (a : Act) (d : Option Tmp) (v : Value) : (a.put d v).tmps.size = a.tmps.size := by
  cases d with
  | none => rfl
  | some x => simp [Act.put]
theorem frm_size (a0 : Act) (val : Nat → Value) (L : Nat → Bool) : ∀ n, (frm ops a0 val L n).tmps.size = a0.tmps.size := by
  intro n
  induction n with
  | zero => rfl
  | succ n ih =>
    simp only [frm]
    split
    · rw [put_size, ih]
    · exact ih
theorem put_get_ne (a : Act) (d : Option Tmp) (v : Value) (s : Nat) (h : d ≠ some s) : (a.put d v).tmps[s]? = a.tmps[s]? := by
  cases d with
  | none => rfl
  | some x =>
    have : x ≠ s := fun q => h (by rw [q])
    simp [Act.put, this]
theorem put_get (a : Act) (s : Nat) (v : Value) (h : s < a.tmps.size) : (a.put (some s) v).tmps[s]? = some v := by
  simp [Act.put, h]
/-- A slot that no operation of the region lays. -/
theorem frm_out (a0 : Act) (val : Nat → Value) (L : Nat → Bool) (s : Nat) : ∀ n, (∀ j, j < n → dstOf ops j ≠ some s) → (frm ops a0 val L n).tmps[s]? = a0.tmps[s]? := by
  intro n
  induction n with
  | zero => intro _; rfl
  | succ n ih =>
    intro h
    simp only [frm]
    split
    · rw [put_get_ne _ _ _ _ (h n (by omega))]; exact ih (fun j hj => h j (by omega))
    · exact ih (fun j hj => h j (by omega))
/-- What an operation that came up has laid. -/
theorem frm_in (a0 : Act) (val : Nat → Value) (L : Nat → Bool) (i s : Nat) (hi : dstOf ops i = some s) (hs : s < a0.tmps.size) (hL : L i = true) (hd : ∀ j, j ≠ i → dstOf ops j ≠ some s) : ∀ n, i < n → (frm ops a0 val L n).tmps[s]? = some (val i) := by
  intro n
  induction n with
  | zero => intro h; omega
  | succ n ih =>
    intro h
    simp only [frm]
    by_cases e : n = i
    · subst e
      rw [if_pos hL, hi, put_get _ _ _ (by rw [frm_size]; exact hs)]
    · have := ih (by omega)
      split
      · rw [put_get_ne _ _ _ _ (hd n e)]; exact this
      · exact this
theorem eval_of {a : Act} {s : Nat} {v : Value} (h : a.tmps[s]? = some v) : a.eval (.tmp s) = v := by
  simp [Act.eval, h]
theorem wanted_none {o : Oper} {y : Nat → Option Bool} (h : o.guard = none) : Region.wanted o y = true := by simp [Region.wanted, h]
def acB (ops : Array Oper) : Bool := (List.range ops.size).all fun i => match ops[i]? with | some o => o.after.toList.all (fun e => !(Region.binds .any e) || decide (e.on < i)) | none => true
theorem hac_of (h : acB ops = true) : ∀ i o, ops[i]? = some o → ∀ e ∈ o.after, Region.binds .any e = true → e.on < i := by
  intro i o ho e he hb
  have hi : i < ops.size := (Array.getElem?_eq_some_iff.1 ho).1
  have h1 := List.all_eq_true.1 h i (List.mem_range.2 hi)
  simp only [ho] at h1
  have h2 := List.all_eq_true.1 h1 e (by simpa using he)
  simpa [hb] using h2
/-- What an operation that came up has laid. -/
theorem frm_at (hdis : ∀ i j, j ≠ i → dstOf ops j ≠ dstOf ops i ∨ dstOf ops j = none) {a a0 : Act} {val : Nat → Value} {L : Nat → Bool} (ha : a = frm ops a0 val L ops.size) (i s : Nat) (hi : dstOf ops i = some s) (hs : s < a0.tmps.size) (hL : L i = true) : a.tmps[s]? = some (val i) := by
  rw [ha]
  have hlt : i < ops.size := by
    rcases Nat.lt_or_ge i ops.size with h | h
    · exact h
    · simp [dstOf, Array.getElem?_eq_none h] at hi
  refine frm_in a0 val L i s hi hs hL (fun j hj => ?_) _ hlt
  rcases hdis i j hj with q | q
  · rw [← hi]; exact q
  · rw [q]; simp
theorem frm_old {a a0 : Act} {val : Nat → Value} {L : Nat → Bool} (ha : a = frm ops a0 val L ops.size) (s : Nat) (v : Value) (h : (List.range ops.size).all (fun j => !(dstOf ops j == some s)) = true) (h0 : a0.tmps[s]? = some v) : a.tmps[s]? = some v := by
  rw [ha, frm_out a0 val L s ops.size, h0]
  intro j hj q
  have := List.all_eq_true.1 h j (List.mem_range.2 hj)
  rw [q] at this
  simp at this
end Go.Proofs.YtmjaobddgaglhaaGreatDoor
namespace Go.Proofs.YtmjaobddgaglhaaGreatDoor
/-! ### Names, lists, texts -/
def sg (c : UInt8) : Bool := (decide (97 ≤ c.toNat) && decide (c.toNat ≤ 122)) || (decide (48 ≤ c.toNat) && decide (c.toNat ≤ 57)) || c.toNat == 45 || c.toNat == 95 || c.toNat == 46
def nm (s : Bs) : Bool := decide (1 ≤ s.length) && decide (s.length ≤ 16) && s.all sg
def tl : List Bs → Bs
  | [] => []
  | x :: r => 32 :: (x ++ tl r)
def tx : List Bs → Bs
  | [] => []
  | a :: r => a ++ tl r
def many (l : List Bs) : Bool := decide (8 < l.length) || decide (60 < (tx l).length)
def up : List Bs → Bool
  | a :: b :: r => decide (a < b) && up (b :: r)
  | _ => true
def wr (l : List Bs) : Nat := if l.all nm && up l then (if many l then 61 else 0) else 60
def right (l : List Bs) : Bool := wr l == 0
def print (l : List Bs) : Bs × Nat := if wr l = 0 then (tx l, 0) else ([], wr l)
/-! ### Order -/
theorem lt_irrefl' (a : Bs) : ¬ a < a := List.lt_irrefl a
theorem lt_trans' {a b c : Bs} (h : a < b) (h' : b < c) : a < c := List.lt_trans h h'
theorem lt_total' {a b : Bs} (h : ¬ a < b) (h' : a ≠ b) : b < a := by
  rcases Decidable.em (b < a) with h2 | h2
  · exact h2
  · exact absurd (List.le_antisymm (List.not_lt.1 h2) (List.not_lt.1 h)) h'
abbrev Rs (l : List Bs) : Prop := l.Pairwise (· < ·)
theorem up_iff : ∀ l : List Bs, up l = true ↔ Rs l
  | [] => by simp [up]
  | [a] => by simp [up]
  | a :: b :: r => by
    simp only [up, Bool.and_eq_true, decide_eq_true_eq, up_iff (b :: r)]
    constructor
    · rintro ⟨h, h2⟩
      refine List.pairwise_cons.2 ⟨fun x hx => ?_, h2⟩
      rcases List.mem_cons.1 hx with rfl | hx
      · exact h
      · exact lt_trans' h ((List.pairwise_cons.1 h2).1 x hx)
    · intro h
      exact ⟨(List.pairwise_cons.1 h).1 b (by simp), (List.pairwise_cons.1 h).2⟩
/-! ### Scopes -/
theorem right_iff {l : List Bs} : right l = true ↔ (∀ x ∈ l, nm x = true) ∧ Rs l ∧ many l = false := by
  unfold right wr
  rw [← up_iff, ← List.all_eq_true]
  cases l.all nm <;> cases up l <;> cases many l <;> simp
theorem tl_len : ∀ {l l' : List Bs}, l.Sublist l' → (tl l).length ≤ (tl l').length := by
  intro l l' h
  induction h with
  | slnil => simp
  | cons a _ ih => simp only [tl, List.length_cons, List.length_append]; omega
  | cons_cons a _ ih => simp only [tl, List.length_cons, List.length_append]; omega
theorem tx_tl : ∀ l : List Bs, (tx l).length = (tl l).length - 1
  | [] => rfl
  | a :: r => by simp [tx, tl]
/-! ### The laws of sets -/
/-! ### There and back -/
theorem right_small {l : List Bs} (h : right l = true) : l.length ≤ 8 ∧ (tx l).length ≤ 60 := by
  have := (right_iff.1 h).2.2
  simp only [many, Bool.or_eq_false_iff, decide_eq_false_iff_not, Nat.not_lt] at this
  exact this
theorem print_right {l : List Bs} (h : right l = true) : print l = (tx l, 0) := by
  unfold right at h; simp at h; simp [print, h]
end Go.Proofs.YtmjaobddgaglhaaGreatDoor
namespace Go.Proofs.YtmjaobddgaglhaaGreatDoor
open Go.RowKit
set_option maxHeartbeats 2000000 in
theorem isSign_any (c : UInt8) (w : World) : Calls Tryz.prog 165 #[.int .u8 (c.toNat : Int)] w fun e w' => e = .returned (.bool (sg c)) ∧ w' = w := by
  have hc := c.toNat_lt
  unfold sg
  generalize c.toNat = n at *
  go_enter Tryz.func165, Tryz.ntmps165
  go_wp2
  all_goals go_ret
  all_goals refine ⟨ret_bool ?_, rfl⟩
  all_goals (rw [Bool.eq_iff_iff]; simp; try omega)
theorem ba_len (s : Bs) : (ByteArray.mk s.toArray).size = s.length := by simp [ByteArray.size]
theorem all_no (P : UInt8 → Bool) (s : Bs) (k : Nat) (h : k < s.length) (hp : P s[k] = false) : s.all P = false := by
  rw [Bool.eq_false_iff]
  intro q
  rw [List.all_eq_true] at q
  rw [q _ (List.getElem_mem h)] at hp
  cases hp
theorem take_snocS {α : Type} (l : List α) (k : Nat) (h : k < l.length) : l.take (k + 1) = l.take k ++ [l[k]] := List.take_succ_eq_append_getElem h
set_option maxHeartbeats 4000000 in
set_option maxRecDepth 8000 in
theorem isName_any (s : Bs) (w : World) (hs : s.length ≤ 9223372036854775807) : Calls Tryz.prog 154 #[S s] w fun e w' => e = .returned (.bool (nm s)) ∧ w' = w := by
  by_cases h0 : s.length = 0
  · have := List.eq_nil_of_length_eq_zero h0
    subst this
    go_enter Tryz.func154, Tryz.ntmps154
    go_wp2
    go_ret
    exact ⟨ret_bool rfl, rfl⟩
  · have i0 : ((s.length : Int) == 0) = false := by rw [beq_eq_false_iff_ne]; omega
    by_cases h1 : s.length ≤ 16
    · have i1 : decide (16 < (s.length : Int)) = false := by simp; omega
      go_enter Tryz.func154, Tryz.ntmps154
      go_wp2
      go_loop [14] (fun i => ∃ k : Nat, k ≤ s.length ∧ i = .int .i64 k ∧ (s.take k).all sg = true) (fun i => s.length - (Go.RowKit.intOf i).toNat)
      case atStart => exact ⟨0, by omega, rfl, by simp⟩
      case round =>
        obtain ⟨k, hk, rfl, ha⟩ := hrel
        by_cases hlt : k < s.length
        · have hsz : k < (ByteArray.mk s.toArray).size := by simpa [ByteArray.size] using hlt
          have hC : (ByteArray.mk s.toArray)[k]'hsz = s[k] := rfl
          have hA := hide ha
          have hT := hide (take_snocS s k hlt)
          have hE := hide (all_no sg s k hlt)
          have hklt : (k : Int) < (s.length : Int) := by omega
          have HQ := hide (fun W => isSign_any s[k] W)
          clear ha
          generalize s[k] = c at *
          by_cases hp : sg c = true
          · rw [hp] at HQ
            have hR := hide (show (s.take (k + 1)).all sg = true by rw [unhide hT]; simp [unhide hA, hp])
            clear hT hp hE
            go_wp2_with (go_at_call 165; refine (unhide HQ _).mono ?_; rintro e w' ⟨rfl, rfl⟩)
            go_round
            case rel => exact ⟨k + 1, by omega, by go_num, unhide hR⟩
            case measure => simp [Go.RowKit.intOf]; omega
          · have hp' : sg c = false := by simpa using hp
            rw [hp'] at HQ
            have hF := hide (unhide hE hp')
            clear hp hp' hE hT hA
            go_wp2_with (go_at_call 165; refine (unhide HQ _).mono ?_; rintro e w' ⟨rfl, rfl⟩)
            go_ret
            exact ⟨ret_bool (by simp [nm, unhide hF]), rfl⟩
        · have e : s.take k = s := List.take_of_length_le (by omega)
          rw [e] at ha
          have hA := hide ha
          have hklt : ¬ (k : Int) < (s.length : Int) := by omega
          clear ha e
          go_wp2
          go_ret
          exact ⟨ret_bool (by simp [nm, unhide hA, h1]; omega), rfl⟩
    · have i1 : decide (16 < (s.length : Int)) = true := by simp; omega
      go_enter Tryz.func154, Tryz.ntmps154
      go_wp2
      go_ret
      exact ⟨ret_bool (by simp [nm, h1]), rfl⟩
end Go.Proofs.YtmjaobddgaglhaaGreatDoor
namespace Go.Proofs.YtmjaobddgaglhaaGreatDoor
open Go.RowKit
/-- The nearest time. -/
def nr (n : Int) : Int := if n < 0 then 0 else if 1099511627776 < n then 1099511627776 else n
def st (n : Int) : Int := if n < -1099511627776 then -1099511627776 else if 1099511627776 < n then 1099511627776 else n
def addv (t d : Int) : Int := nr (nr t + st d)
theorem nr_b (n : Int) : 0 ≤ nr n ∧ nr n ≤ 1099511627776 := by unfold nr; split; omega; split <;> omega
theorem st_b (n : Int) : -1099511627776 ≤ st n ∧ st n ≤ 1099511627776 := by unfold st; split; omega; split <;> omega
set_option maxHeartbeats 2000000
theorem nearest_any (n : Int) (w : World) : Calls Tryz.prog 60 #[I n] w fun e w' => e = .returned (I (nr n)) ∧ w' = w := by
  go_enter Tryz.func60, Tryz.ntmps60
  go_wp2
  all_goals go_ret
  all_goals refine ⟨ret_int ?_, rfl⟩
  all_goals (unfold nr; repeat' split)
  all_goals first | rfl | omega
theorem step_any (n : Int) (w : World) : Calls Tryz.prog 81 #[I n] w fun e w' => e = .returned (I (st n)) ∧ w' = w := by
  go_enter Tryz.func81, Tryz.ntmps81
  go_wp2
  all_goals go_ret
  all_goals refine ⟨ret_int ?_, rfl⟩
  all_goals (unfold st; repeat' split)
  all_goals first | rfl | omega
end Go.Proofs.YtmjaobddgaglhaaGreatDoor
namespace Go.Proofs.YtmjaobddgaglhaaGreatDoor
open Go.RowKit
set_option maxHeartbeats 2000000
theorem cadd_any (t d : Int) (w : World) : Calls Tryz.prog 65 #[I t, I d] w fun e w' => e = .returned (I (addv t d)) ∧ w' = w := by
  have b1 := nr_b t
  have b2 := st_b d
  have H1 := hide (fun W => nearest_any t W)
  have H2 := hide (fun W => step_any d W)
  have H3 := hide (fun W => nearest_any (nr t + st d) W)
  unfold addv
  generalize nr t = x at *
  generalize st d = y at *
  go_enter Tryz.func65, Tryz.ntmps65
  go_wp2_with fail
  refine (unhide H1 _).mono ?_
  rintro e w' ⟨rfl, rfl⟩
  go_wp2_with fail
  refine (unhide H2 _).mono ?_
  rintro e w' ⟨rfl, rfl⟩
  go_wp2_with fail
  refine (unhide H3 _).mono ?_
  rintro e w' ⟨rfl, rfl⟩
  go_wp2
  go_ret
  exact ⟨rfl, rfl⟩
end Go.Proofs.YtmjaobddgaglhaaGreatDoor
namespace Go.Proofs.YtmjaobddgaglhaaGreatDoor
open Go.RowKit
set_option maxHeartbeats 4000000
set_option maxRecDepth 8000
/-- Numbers in memory. -/
def Ns (w : World) (a : Option Addr) (n : Nat) (l : List Int) : Prop :=
  n = l.length ∧ (0 < n → ∃ p o, a = some ⟨p, o, none⟩ ∧ ∀ j, j < n → w.cell? ⟨p, o + j, none⟩ = some (I (l.getD j 0)))
theorem Ns.at {w : World} {a : Option Addr} {n : Nat} {l : List Int} (h : Ns w a n l) {j : Nat} (hj : j < n) : ∃ p o, a = some ⟨p, o, none⟩ ∧ p < w.heap.size ∧ w.cell? ⟨p, o + j, none⟩ = some (I (l.getD j 0)) := by
  obtain ⟨p, o, e, hc⟩ := h.2 (by omega)
  exact ⟨p, o, e, block_lt_of_cell (hc j hj), hc j hj⟩
def mn (m t : Int) : Int := if nr t < m then nr t else m
def firstv (l : List Int) : Int := l.foldl mn 1099511627776
theorem fold_b (l : List Int) : ∀ m : Int, 0 ≤ m → m ≤ 1099511627776 → 0 ≤ l.foldl mn m ∧ l.foldl mn m ≤ 1099511627776 := by
  induction l with
  | nil => intro m h1 h2; exact ⟨h1, h2⟩
  | cons x l ih =>
    intro m h1 h2
    have := nr_b x
    refine ih _ ?_ ?_ <;> (unfold mn; split <;> omega)
theorem first_b (l : List Int) : 0 ≤ firstv l ∧ firstv l ≤ 1099511627776 := fold_b l _ (by omega) (by omega)
theorem first_next (l : List Int) (k : Nat) (h : k < l.length) : firstv (l.take (k + 1)) = mn (firstv (l.take k)) (l.getD k 0) := by
  unfold firstv
  rw [List.take_succ_eq_append_getElem h, List.foldl_append]
  simp [h]
theorem first_any (a : Option Addr) (n cap : Nat) (l : List Int) (w : World) (hp : Ns w a n l) (hn : n ≤ 9223372036854775806) : Calls Tryz.prog 64 #[.slice a n cap] w fun e w' => e = .returned (I (firstv l)) ∧ w' = w := by
  have HP := hide hp
  have HN := hide hp.1
  clear hp
  go_enter Tryz.func64, Tryz.ntmps64
  go_wp2
  go_loopw [3, 8] (fun m i wr => ∃ k : Nat, k ≤ n ∧ i = .int .i64 k ∧ m = I (firstv (l.take k)) ∧ wr = w) (fun _ i _ => n - (intOf i).toNat)
  case atStart => exact ⟨0, by omega, rfl, rfl, rfl⟩
  case round =>
    obtain ⟨k, hkn, rfl, rfl, rfl⟩ := hrel
    by_cases hlt : k < n
    · obtain ⟨p, o, rfl, hpl, hc1⟩ := (unhide HP).at hlt
      have hnx := hide (first_next l k (by have := unhide HN; omega))
      have HQ := hide (fun W => nearest_any (l.getD k 0) W)
      have hb := first_b (l.take k)
      generalize l.getD k 0 = X at *
      generalize firstv (l.take k) = C at *
      have hb2 := nr_b X
      unfold mn at hnx
      generalize nr X = Y at *
      go_wp2_with (refine (unhide HQ _).mono ?_; rintro e w' ⟨rfl, rfl⟩)
      all_goals go_roundw
      all_goals first | (simp [intOf]; omega) | skip
      all_goals
        refine ⟨k + 1, by omega, by go_num, ?_, trivial⟩
        show I _ = I _
        refine congrArg I ?_
        refine Eq.trans ?_ (unhide hnx).symm
        repeat' split
        all_goals omega
    · have e : l.take k = l := List.take_of_length_le (by have := unhide HN; omega)
      rw [e]
      have hklt : ¬ (k : Int) < (n : Int) := by omega
      go_wp2
      go_ret
      exact ⟨rfl, rfl⟩
end Go.Proofs.YtmjaobddgaglhaaGreatDoor
namespace Go.Proofs.YtmjaobddgaglhaaGreatDoor
open Go.RowKit Go.Lib
theorem ret_str {a b : List UInt8} (h : a = b) : Ending.returned (.string ⟨a.toArray⟩) = .returned (.string ⟨b.toArray⟩) := by rw [h]
theorem ofInt_i64 (a : Nat) (ha : a < 9223372036854775808) : (BitVec.ofInt 64 (a : Int)).toNat = a := by
  rw [BitVec.toNat_ofInt]; omega
theorem i64_and_nat (a b : Nat) (ha : a < 9223372036854775808) (hb : b < 9223372036854775808) : bits .and .i64 (a : Int) (b : Int) = ((a &&& b : Nat) : Int) := by
  have hx : a &&& b < 2 ^ 63 := Nat.and_lt_two_pow a hb
  have h1 := ofInt_i64 a ha
  have h2 := ofInt_i64 b hb
  have hb' : bits .and .i64 (a : Int) (b : Int) = IntKind.i64.wrap (((BitVec.ofInt 64 (a : Int)) &&& (BitVec.ofInt 64 (b : Int))).toNat : Int) := rfl
  rw [hb', BitVec.toNat_and, h1, h2, IntKind.wrap_i64]; omega
theorem i64_or_nat (a b : Nat) (ha : a < 9223372036854775808) (hb : b < 9223372036854775808) : bits .or .i64 (a : Int) (b : Int) = ((a ||| b : Nat) : Int) := by
  have hx : a ||| b < 2 ^ 63 := Nat.or_lt_two_pow ha hb
  have h1 := ofInt_i64 a ha
  have h2 := ofInt_i64 b hb
  have hb' : bits .or .i64 (a : Int) (b : Int) = IntKind.i64.wrap (((BitVec.ofInt 64 (a : Int)) ||| (BitVec.ofInt 64 (b : Int))).toNat : Int) := rfl
  rw [hb', BitVec.toNat_or, h1, h2, IntKind.wrap_i64]; omega
/-- Bits that stand behind others. -/
theorem or_add (k a b : Nat) (hb : b < 2 ^ k) (ha : a * 2 ^ k + b < 9223372036854775808) : bits .or .i64 ((a : Int) * 2 ^ k) (b : Int) = ((a * 2 ^ k + b : Nat) : Int) := by
  have e : ((a : Int) * 2 ^ k) = ((a * 2 ^ k : Nat) : Int) := by push_cast; rfl
  rw [e, i64_or_nat _ _ (by omega) (by omega)]
  congr 1
  rw [← Nat.shiftLeft_eq, Nat.shiftLeft_add_eq_or_of_lt hb]
theorem and_mod (k a : Nat) (hk : k < 63) (ha : a < 9223372036854775808) : bits .and .i64 (a : Int) ((2 : Int) ^ k - 1) = ((a % 2 ^ k : Nat) : Int) := by
  have h1 : 0 < 2 ^ k := Nat.two_pow_pos k
  have h2 : 2 ^ k < 2 ^ 63 := Nat.pow_lt_pow_right (by decide) hk
  have e : ((2 : Int) ^ k - 1) = ((2 ^ k - 1 : Nat) : Int) := by
    rw [Int.ofNat_sub h1]; push_cast; rfl
  rw [e, i64_and_nat _ _ ha (by omega), Nat.and_two_pow_sub_one_eq_mod]
theorem wrap_c (c : UInt8) : wrap64 (c.toNat : Int) = (c.toNat : Int) := IntWalk.wrap64_in _ (by have := c.toNat_lt; omega)
theorem push {ops : Array Oper} {rest : List Oper} {o : Oper} {a : Act} {Q : Exit → Act → World → Prop} (hgd : o.guard = none) (s x : Operand)
    (ho : o.op = .call { callee := .builtin .append, args := #[s, x], argTypes := #[101, 101] })
    (base : Nat) (v : Value) (X : List UInt8) (hs : a.eval s = v) (W0 w0 : World) (ci : Int) (c : UInt8) (hci : ci = (c.toNat : Int)) (hb : Own base v X W0 w0)
    (hx : a.eval x = .slice (some ⟨w0.heap.size, 0, none⟩) 1 1) (hlen : X.length + 1 ≤ 140737488355328)
    (h : ∀ v' w', Own base v' (X ++ [c]) W0 w' → wpList Tryz.prog ops Q rest (a.put o.dst v') w') : wpList Tryz.prog ops Q (o :: rest) a (w0.alloc (.cells #[.int .u8 ci] 5)) := by
  obtain ⟨i0, hi, hz0, hz1, hz2⟩ := info_parts info5
  refine wpList_append_byte hgd s x 101 ho base 5 i0 Tryz.underlying101 hi hz0 hz1 hz2 v X.length (X.map B) hs W0 w0 ci hb hx hlen ?_
  intro v' w' hb'
  refine h v' w' ?_
  subst hci
  unfold Own
  rw [List.length_append, List.map_append]
  exact hb'
/-- make([]byte, 0, n). -/
theorem makeBuf {ops : Array Oper} {rest : List Oper} {o : Oper} {a : Act} {w : World} {Q : Exit → Act → World → Prop} (hgd : o.guard = none) (l c : Operand) (hop : o.op = Op.makeSlice 101 l c)
    (C : Int) (n : Nat) (hl : a.eval l = .int .i64 0) (hc : a.eval c = .int .i64 C) (hC : C = (n : Int)) (hn : n ≤ 140737488355328)
    (h : ∀ w' v, Own w.heap.size v [] w w' → wpList Tryz.prog ops Q rest (a.put o.dst v) w') : wpList Tryz.prog ops Q (o :: rest) a w := by
  obtain ⟨i0, hi, hz0, hz1, hz2⟩ := info_parts info5
  refine wpList_make_own w hgd l c 101 hop w.heap.size 5 i0 (.int .u8 0) 1 Tryz.underlying101 hi hz0 hz1 .i64 .i64 C n hl hc hC (by rw [hz2]; omega) (by unfold maxLen; omega) (Nat.le_refl _) ?_
  intro w' ho hg
  exact h w' _ ⟨World.ownsRowF_of ho, (Below.refl _ _).grown hg (Nat.le_refl _) (fun k e => by cases e), hg.size⟩
end Go.Proofs.YtmjaobddgaglhaaGreatDoor
/- A region that draws its order, by an invariant: one goal an operation, not one an order. -/
namespace Go.Proofs.YtmjaobddgaglhaaGreatDoor
variable {P : Program} {ops : Array Oper} {Q : Exit → Act → World → Prop}
theorem any_invH (IH : (Nat → Bool) → Act → World → Prop)
    (hac : ∀ i o, ops[i]? = some o → ∀ e ∈ o.after, Region.binds .any e = true → e.on < i)
    (hstep : ∀ L a w i o, ops[i]? = some o → L i = false → (∀ e ∈ o.after, Region.binds .any e = true → L e.on = true) → IH L a w → wpOp P ops Q i (fun a' w' => IH (upd L i) a' w') a w)
    (hend : ∀ L a w, (∀ i, i < ops.size → L i = true) → IH L a w → Q .normal a w) :
    ∀ fuel listed a w, listed.size = ops.size → left listed ops.size ≤ fuel → IH (fun j => listed.getD j false) a w → wpAny P .any ops Q fuel listed a w := by
  have same : ∀ (listed : Array Bool) (j : Nat), j < listed.size → listed.getD j true = listed.getD j false := by
    intro listed j hj; simp [hj]
  have nil : ∀ (listed : Array Bool) (a : Act) (w : World), listed.size = ops.size → IH (fun j => listed.getD j false) a w → Region.ready .any ops listed = [] → Q .normal a w := by
    intro listed a w hs hI hr
    refine hend _ a w ?_ hI
    intro i
    induction i using Nat.strongRecOn with
    | ind i ih =>
      intro hi
      cases hq : listed.getD i false
      · exfalso
        have hm : i ∈ Region.ready .any ops listed := by
          rw [mem_ready]
          refine ⟨by rw [same listed i (by omega)]; exact hq, ops[i], by simp [hi], ?_⟩
          intro e he hb
          have hlt := hac i ops[i] (by simp [hi]) e he hb
          exact ih e.on hlt (by omega)
        rw [hr] at hm
        cases hm
      · rfl
  intro fuel
  induction fuel with
  | zero =>
    intro listed a w hs hl hI
    have hr : Region.ready .any ops listed = [] := by
      cases hq : Region.ready .any ops listed with
      | nil => rfl
      | cons x xs =>
        have hm : x ∈ Region.ready .any ops listed := by rw [hq]; simp
        rw [mem_ready] at hm
        obtain ⟨h1, o, ho, _⟩ := hm
        have hlt : x < ops.size := (Array.getElem?_eq_some_iff.1 ho).1
        have := left_zero (listed := listed) (n := ops.size) (by omega) x hlt
        rw [this] at h1
        cases h1
    exact ⟨hr, nil listed a w hs hI hr⟩
  | succ fuel ih =>
    intro listed a w hs hl hI
    refine ⟨nil listed a w hs hI, ?_⟩
    intro i hi
    rw [mem_ready] at hi
    obtain ⟨h1, o, ho, hall⟩ := hi
    have hlt : i < ops.size := (Array.getElem?_eq_some_iff.1 ho).1
    refine wpOp_mono ?_ (hstep (fun j => listed.getD j false) a w i o ho (by rw [← same listed i (by omega)]; exact h1) hall hI)
    intro a' w' hI'
    refine ih (listed.setIfInBounds i true) a' w' (by simpa using hs) (by have := left_set h1 hlt; omega) ?_
    have e : (fun j => (listed.setIfInBounds i true).getD j false) = upd (fun j => listed.getD j false) i := by
      funext j
      unfold upd
      by_cases hj : j = i
      · subst hj
        simp [hs, hlt]
      · rw [if_neg hj, getD_set_ne false (Ne.symm hj)]
    rw [e]
    exact hI'
theorem region_invH {id : Nat} {a : Act} {w : World} (hm : P.follows .mixedOrders = true) (IH : (Nat → Bool) → Act → World → Prop)
    (hac : ∀ i o, ops[i]? = some o → ∀ e ∈ o.after, Region.binds .any e = true → e.on < i)
    (h0 : IH (fun _ => false) a w.drew)
    (hstep : ∀ L a w i o, ops[i]? = some o → L i = false → (∀ e ∈ o.after, Region.binds .any e = true → L e.on = true) → IH L a w → wpOp P ops Q i (fun a' w' => IH (upd L i) a' w') a w)
    (hend : ∀ L a w, (∀ i, i < ops.size → L i = true) → IH L a w → Q .normal a w) : (Code.region id ops true).wp P Q a w := by
  refine wp_region_any hm ?_
  refine any_invH IH hac hstep hend ops.size _ a _ (by simp) ?_ ?_
  · have : ∀ n, n ≤ ops.size → left (Array.replicate ops.size false) n ≤ n := by
      intro n
      induction n with
      | zero => intro _; simp [left]
      | succ n ih => intro h; simp only [left]; have := ih (by omega); split <;> omega
    exact this _ (Nat.le_refl _)
  · have e : (fun j => (Array.replicate ops.size false).getD j false) = fun _ => false := by
      funext j
      by_cases hj : j < ops.size
      · simp [hj]
      · simp [Array.getElem?_eq_none (show (Array.replicate ops.size false).size ≤ j by simp; omega)]
    rw [e]
    exact h0
end Go.Proofs.YtmjaobddgaglhaaGreatDoor
