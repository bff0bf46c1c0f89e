import Derived.Test.YtpidmpefodnffaaGreatDoorZsmc
import Derived.Test.YtpidmpefodnffaaGreatDoorZtra
import Derived.Test.YtpidmpefodnffaaGreatDoorZrca
import Derived.Test.YtpidmpefodnffaaGreatDoorZfde
import Derived.Deep.QuietTactic
import Derived.BigQuiet
import Derived.Laws.CopyRow
import Derived.Laws.MakeOwn
import Derived.Lib.BufSteps
namespace Go.Proofs.YtpidmpefodnffaaGreatDoor
open Go.RowKit Go.Lib
set_option maxHeartbeats 4000000
set_option maxRecDepth 8000
theorem own_keep {B : Nat} {w w' : World} {v : Value} {u : List Bs} (h : OwnS B w v u) {P : Nat → Prop} (ho : Only P w w') (hp : ∀ k, P k → k < B) : OwnS B w' v u := CtAt.keep (c := .l u) h P ho hp
theorem spl_few : ∀ s : Bs, (spl s).length ≤ s.length + 1 ∧ ∀ x, x ∈ spl s → x.length ≤ s.length
  | [] => by simp [spl]
  | c :: r => by
    have ih := spl_few r
    unfold spl
    split
    · refine ⟨by simp; omega, fun x hx => ?_⟩
      rcases List.mem_cons.1 hx with rfl | q
      · simp
      · have := ih.2 x q; simp; omega
    · split
      · rename_i a t e
        rw [e] at ih
        refine ⟨by have := ih.1; simp at this ⊢; omega, fun x hx => ?_⟩
        rcases List.mem_cons.1 hx with rfl | q
        · have := ih.2 a (List.mem_cons_self ..); simp; omega
        · have := ih.2 x (List.mem_cons_of_mem _ q); simp; omega
      · refine ⟨by simp, fun x hx => ?_⟩
        rw [List.mem_singleton.1 hx]
        simp
theorem prt_few (s : Bs) (h : s.length ≤ 255) : (prt s).length ≤ 140737488355000 ∧ Lns (prt s) := by
  unfold prt
  split
  · exact ⟨by simp, fun j => by simp⟩
  · have q := spl_few s
    refine ⟨by have := q.1; omega, fun j => ?_⟩
    by_cases hj : j < (spl s).length
    · have := q.2 ((spl s)[j]) (List.getElem_mem hj)
      simp [hj]
      omega
    · rw [List.getD_eq_getElem?_getD, List.getElem?_eq_none (by omega)]
      simp
end Go.Proofs.YtpidmpefodnffaaGreatDoor
namespace Go.Proofs.YtpidmpefodnffaaGreatDoor
open Go.RowKit Go.Lib
set_option maxHeartbeats 4000000
set_option maxRecDepth 8000
theorem same_take {fs gs : List Bs} (k : Nat) (h1 : k < fs.length) (h2 : k < gs.length) : fs.take (k + 1) = gs.take (k + 1) ↔ fs.take k = gs.take k ∧ fs.getD k [] = gs.getD k [] := by
  rw [List.take_succ_eq_append_getElem h1, List.take_succ_eq_append_getElem h2]
  have e1 : fs.getD k [] = fs[k] := by simp [h1]
  have e2 : gs.getD k [] = gs[k] := by simp [h2]
  rw [e1, e2]
  constructor
  · intro h
    have := List.append_inj h (by simp; omega)
    exact ⟨this.1, by simpa using this.2⟩
  · rintro ⟨h, h'⟩
    rw [h, h']
theorem run_neq (x y : Bs) (W : World) : (binOp .neq 9 (S x) (S y)).run Tryz.prog W = .ok (.bool (decide (x ≠ y))) W := by
  have e : (!((ByteArray.mk x.toArray).toList == (ByteArray.mk y.toArray).toList)) = decide (x ≠ y) := by
    have e1 : ∀ z : Bs, (ByteArray.mk z.toArray).toList = z := fun z => by simp [ByteArray.toList_eq]
    rw [e1, e1]
    by_cases h : x = y <;> simp [h]
  rw [← e]
  simp [binOp, Op.stringOp]
set_option maxHeartbeats 4000000 in
set_option maxRecDepth 8000 in
theorem same_any (a b : Option Addr) (n m c1 c2 : Nat) (fs gs : List Bs) (w : World) (hp : Sts w a n fs) (hq : Sts w b m gs) (hn : n ≤ 9223372036854775806) (hm : m ≤ 9223372036854775806) :
    Calls Tryz.prog 66 #[.slice a n c1, .slice b m c2] w fun e w' => e = .returned (.bool (decide (fs = gs))) ∧ Below w.heap.size w w' := by
  have HN := hide hp.1
  have HM := hide hq.1
  by_cases hl : n = m
  · subst hl
    have HP := hide hp
    have HQ := hide hq
    obtain ⟨T, hT⟩ : ∃ T, T = decide (fs = gs) := ⟨_, rfl⟩
    rw [← hT]
    have HT := hide hT
    clear hp hq hT hm
    go_enter Tryz.func66, Tryz.ntmps66
    go_wp2
    go_loopw [5] (fun i wr => ∃ k : Nat, k ≤ n ∧ i = .int .i64 k ∧ fs.take k = gs.take k ∧ Below w.heap.size w wr) (fun i _ => n - (Go.RowKit.intOf i).toNat)
    case atStart => exact ⟨0, by omega, rfl, rfl, Below.refl _ _⟩
    case round =>
      obtain ⟨k, hk, rfl, hsame, hbr⟩ := hrel
      by_cases hlt : k < n
      · obtain ⟨p, o, rfl, _, hc0⟩ := ((unhide HP).below hbr).at hlt
        obtain ⟨p', o', rfl, _, hd0⟩ := ((unhide HQ).below hbr).at hlt
        have hst := hide (same_take (fs := fs) (gs := gs) k (by have := unhide HN; omega) (by have := unhide HM; omega))
        have hne : Hid (fs.getD k [] ≠ gs.getD k [] → fs ≠ gs) := hide (fun h e => h (by rw [e]))
        generalize fs.getD k [] = x at *
        generalize gs.getD k [] = y at *
        have hlt' : (k : Int) < (n : Int) := by omega
        have hsm := hide hsame
        clear hsame
        go_wp2_with fail
        go_quiet (fail)
        have hs := hbr.trans (show Below w.heap.size wr (wr.drewN nq) from ⟨rfl, rfl, rfl, Nat.le_refl _, fun _ _ => rfl⟩)
        generalize wr.drewN nq = wv at *
        by_cases he : x = y
        · subst he
          have hsm2 := hide ((unhide hst).2 ⟨unhide hsm, rfl⟩)
          clear hst hne
          rw [show (!x == x) = false by simp]
          go_wp2
          refine ⟨⟨k + 1, by omega, by go_num, unhide hsm2, hs⟩, ?_⟩
          simp [Go.RowKit.intOf]; omega
        · have hT2 : T = false := by
            rw [unhide HT]
            exact decide_eq_false (unhide hne he)
          subst hT2
          rw [show (!x == y) = true by simp [he]]
          clear hst hne he
          go_wp2
          go_ret
          exact ⟨rfl, hs⟩
      · have hd : decide (k < n) = false := by simp; omega
        have hT2 : T = true := by
          rw [unhide HT]
          refine decide_eq_true ?_
          rw [List.take_of_length_le (by have := unhide HN; omega), List.take_of_length_le (by have := unhide HM; omega)] at hsame
          exact hsame
        subst hT2
        clear hsame
        go_wp2
        go_ret
        exact ⟨rfl, hbr⟩
  · have hT : decide (fs = gs) = false := decide_eq_false (fun e => hl (by have := unhide HN; have := unhide HM; rw [e] at *; omega))
    rw [hT]
    have hl' : ¬ (n : Int) = (m : Int) := by omega
    clear hp hq hl
    go_enter Tryz.func66, Tryz.ntmps66
    go_wp2
    go_ret
    exact ⟨rfl, Below.refl _ _⟩
theorem sameFamily_same (id9 : Int) (cl : Bs) (su : Bs) (sc : List Bs) (cr : Int) (us : Int) (idl : Int) (ab : Int) (gr : Int) (ge : Int) (tk9 : Int) (st : Int) (en : Int) (co : Int) (va ua : Option Addr) (vc uc : Nat) (w : World) (h1 : Sts w va sc.length sc) (h2 : Sts w ua sc.length sc) (hn : sc.length ≤ 9223372036854775806) : Calls Tryz.prog 27 #[.agg #[I id9, S cl, S su, .slice va sc.length vc, I cr, I us, I idl, I ab, I gr, I ge, I tk9, I st, I en, I co], .agg #[I id9, S cl, S su, .slice ua sc.length uc, I cr, I us, I idl, I ab, I gr, I ge, I tk9, I st, I en, I co]] w fun e w' => e = .returned (.bool true) ∧ Below w.heap.size w w' := by
  have hb0 : Below w.heap.size w ((w.alloc (.cells #[I id9, S cl, S su, .slice va sc.length vc, I cr, I us, I idl, I ab, I gr, I ge, I tk9, I st, I en, I co] 40)).alloc (.cells #[I id9, S cl, S su, .slice ua sc.length uc, I cr, I us, I idl, I ab, I gr, I ge, I tk9, I st, I en, I co] 40)) := ((Below.refl _ w).alloc (Nat.le_refl _) _).alloc (by simp) _
  have K := (show Kpr [] w from fun q hq => by cases hq).add #[I id9, S cl, S su, .slice va sc.length vc, I cr, I us, I idl, I ab, I gr, I ge, I tk9, I st, I en, I co] 40 |>.add #[I id9, S cl, S su, .slice ua sc.length uc, I cr, I us, I idl, I ab, I gr, I ge, I tk9, I st, I en, I co] 40
  have hsz : (w.alloc (.cells #[I id9, S cl, S su, .slice va sc.length vc, I cr, I us, I idl, I ab, I gr, I ge, I tk9, I st, I en, I co] 40)).heap.size = w.heap.size + 1 := by simp
  rw [hsz] at K
  have XS0 := same_any va ua sc.length sc.length vc uc sc sc ((w.alloc (.cells #[I id9, S cl, S su, .slice va sc.length vc, I cr, I us, I idl, I ab, I gr, I ge, I tk9, I st, I en, I co] 40)).alloc (.cells #[I id9, S cl, S su, .slice ua sc.length uc, I cr, I us, I idl, I ab, I gr, I ge, I tk9, I st, I en, I co] 40)) (h1.bel hb0) (h2.bel hb0) hn hn
  rw [show decide (sc = sc) = true from decide_eq_true rfl] at XS0
  have XS := hide XS0
  clear XS0
  generalize hW1 : ((w.alloc (.cells #[I id9, S cl, S su, .slice va sc.length vc, I cr, I us, I idl, I ab, I gr, I ge, I tk9, I st, I en, I co] 40)).alloc (.cells #[I id9, S cl, S su, .slice ua sc.length uc, I cr, I us, I idl, I ab, I gr, I ge, I tk9, I st, I en, I co] 40)) = W1 at *
  have HB := hide hb0
  have HK := hide K
  have c0 : W1.cell? ⟨w.heap.size, 0, none⟩ = some (I id9) := cellr K.tail.r0 rfl
  have d0 : W1.cell? ⟨w.heap.size + 1, 0, none⟩ = some (I id9) := cellr K.r0 rfl
  have c1 : W1.cell? ⟨w.heap.size, 1, none⟩ = some (S cl) := cellr K.tail.r0 rfl
  have d1 : W1.cell? ⟨w.heap.size + 1, 1, none⟩ = some (S cl) := cellr K.r0 rfl
  have c2 : W1.cell? ⟨w.heap.size, 2, none⟩ = some (S su) := cellr K.tail.r0 rfl
  have d2 : W1.cell? ⟨w.heap.size + 1, 2, none⟩ = some (S su) := cellr K.r0 rfl
  have c3 : W1.cell? ⟨w.heap.size, 3, none⟩ = some (.slice va sc.length vc) := cellr K.tail.r0 rfl
  have d3 : W1.cell? ⟨w.heap.size + 1, 3, none⟩ = some (.slice ua sc.length uc) := cellr K.r0 rfl
  have c4 : W1.cell? ⟨w.heap.size, 4, none⟩ = some (I cr) := cellr K.tail.r0 rfl
  have d4 : W1.cell? ⟨w.heap.size + 1, 4, none⟩ = some (I cr) := cellr K.r0 rfl
  have c5 : W1.cell? ⟨w.heap.size, 5, none⟩ = some (I us) := cellr K.tail.r0 rfl
  have d5 : W1.cell? ⟨w.heap.size + 1, 5, none⟩ = some (I us) := cellr K.r0 rfl
  have c6 : W1.cell? ⟨w.heap.size, 6, none⟩ = some (I idl) := cellr K.tail.r0 rfl
  have d6 : W1.cell? ⟨w.heap.size + 1, 6, none⟩ = some (I idl) := cellr K.r0 rfl
  have c7 : W1.cell? ⟨w.heap.size, 7, none⟩ = some (I ab) := cellr K.tail.r0 rfl
  have d7 : W1.cell? ⟨w.heap.size + 1, 7, none⟩ = some (I ab) := cellr K.r0 rfl
  have c8 : W1.cell? ⟨w.heap.size, 8, none⟩ = some (I gr) := cellr K.tail.r0 rfl
  have d8 : W1.cell? ⟨w.heap.size + 1, 8, none⟩ = some (I gr) := cellr K.r0 rfl
  have c9 : W1.cell? ⟨w.heap.size, 9, none⟩ = some (I ge) := cellr K.tail.r0 rfl
  have d9 : W1.cell? ⟨w.heap.size + 1, 9, none⟩ = some (I ge) := cellr K.r0 rfl
  have c10 : W1.cell? ⟨w.heap.size, 10, none⟩ = some (I tk9) := cellr K.tail.r0 rfl
  have d10 : W1.cell? ⟨w.heap.size + 1, 10, none⟩ = some (I tk9) := cellr K.r0 rfl
  have c11 : W1.cell? ⟨w.heap.size, 11, none⟩ = some (I st) := cellr K.tail.r0 rfl
  have d11 : W1.cell? ⟨w.heap.size + 1, 11, none⟩ = some (I st) := cellr K.r0 rfl
  have c12 : W1.cell? ⟨w.heap.size, 12, none⟩ = some (I en) := cellr K.tail.r0 rfl
  have d12 : W1.cell? ⟨w.heap.size + 1, 12, none⟩ = some (I en) := cellr K.r0 rfl
  have c13 : W1.cell? ⟨w.heap.size, 13, none⟩ = some (I co) := cellr K.tail.r0 rfl
  have d13 : W1.cell? ⟨w.heap.size + 1, 13, none⟩ = some (I co) := cellr K.r0 rfl
  clear K hsz hb0 h1 h2
  go_enter Tryz.func27, Tryz.ntmps27
  go_wp2_with fail
  refine (unhide XS).mono ?_
  rintro e W2 ⟨rfl, hb⟩
  have HB2 := hide ((unhide HB).trans (hb.mono (unhide HB).size))
  have HK2 := hide ((unhide HK).below hb)
  clear hb XS HB HK hW1 c0 d0 c1 d1 c2 d2 c3 d3 c4 d4 c5 d5 c6 d6 c7 d7 c8 d8 c9 d9 c10 d10 c11 d11 c12 d12 c13 d13
  have c0 : W2.cell? ⟨w.heap.size, 0, none⟩ = some (I id9) := cellr (unhide HK2).tail.r0 rfl
  have d0 : W2.cell? ⟨w.heap.size + 1, 0, none⟩ = some (I id9) := cellr (unhide HK2).r0 rfl
  have c1 : W2.cell? ⟨w.heap.size, 1, none⟩ = some (S cl) := cellr (unhide HK2).tail.r0 rfl
  have d1 : W2.cell? ⟨w.heap.size + 1, 1, none⟩ = some (S cl) := cellr (unhide HK2).r0 rfl
  have c2 : W2.cell? ⟨w.heap.size, 2, none⟩ = some (S su) := cellr (unhide HK2).tail.r0 rfl
  have d2 : W2.cell? ⟨w.heap.size + 1, 2, none⟩ = some (S su) := cellr (unhide HK2).r0 rfl
  have c3 : W2.cell? ⟨w.heap.size, 3, none⟩ = some (.slice va sc.length vc) := cellr (unhide HK2).tail.r0 rfl
  have d3 : W2.cell? ⟨w.heap.size + 1, 3, none⟩ = some (.slice ua sc.length uc) := cellr (unhide HK2).r0 rfl
  have c4 : W2.cell? ⟨w.heap.size, 4, none⟩ = some (I cr) := cellr (unhide HK2).tail.r0 rfl
  have d4 : W2.cell? ⟨w.heap.size + 1, 4, none⟩ = some (I cr) := cellr (unhide HK2).r0 rfl
  have c5 : W2.cell? ⟨w.heap.size, 5, none⟩ = some (I us) := cellr (unhide HK2).tail.r0 rfl
  have d5 : W2.cell? ⟨w.heap.size + 1, 5, none⟩ = some (I us) := cellr (unhide HK2).r0 rfl
  have c6 : W2.cell? ⟨w.heap.size, 6, none⟩ = some (I idl) := cellr (unhide HK2).tail.r0 rfl
  have d6 : W2.cell? ⟨w.heap.size + 1, 6, none⟩ = some (I idl) := cellr (unhide HK2).r0 rfl
  have c7 : W2.cell? ⟨w.heap.size, 7, none⟩ = some (I ab) := cellr (unhide HK2).tail.r0 rfl
  have d7 : W2.cell? ⟨w.heap.size + 1, 7, none⟩ = some (I ab) := cellr (unhide HK2).r0 rfl
  have c8 : W2.cell? ⟨w.heap.size, 8, none⟩ = some (I gr) := cellr (unhide HK2).tail.r0 rfl
  have d8 : W2.cell? ⟨w.heap.size + 1, 8, none⟩ = some (I gr) := cellr (unhide HK2).r0 rfl
  have c9 : W2.cell? ⟨w.heap.size, 9, none⟩ = some (I ge) := cellr (unhide HK2).tail.r0 rfl
  have d9 : W2.cell? ⟨w.heap.size + 1, 9, none⟩ = some (I ge) := cellr (unhide HK2).r0 rfl
  have c10 : W2.cell? ⟨w.heap.size, 10, none⟩ = some (I tk9) := cellr (unhide HK2).tail.r0 rfl
  have d10 : W2.cell? ⟨w.heap.size + 1, 10, none⟩ = some (I tk9) := cellr (unhide HK2).r0 rfl
  have c11 : W2.cell? ⟨w.heap.size, 11, none⟩ = some (I st) := cellr (unhide HK2).tail.r0 rfl
  have d11 : W2.cell? ⟨w.heap.size + 1, 11, none⟩ = some (I st) := cellr (unhide HK2).r0 rfl
  have c12 : W2.cell? ⟨w.heap.size, 12, none⟩ = some (I en) := cellr (unhide HK2).tail.r0 rfl
  have d12 : W2.cell? ⟨w.heap.size + 1, 12, none⟩ = some (I en) := cellr (unhide HK2).r0 rfl
  have c13 : W2.cell? ⟨w.heap.size, 13, none⟩ = some (I co) := cellr (unhide HK2).tail.r0 rfl
  have d13 : W2.cell? ⟨w.heap.size + 1, 13, none⟩ = some (I co) := cellr (unhide HK2).r0 rfl
  clear HK2
  go_wp2
  go_ret
  exact ⟨rfl, unhide HB2⟩
end Go.Proofs.YtpidmpefodnffaaGreatDoor
namespace Go.Proofs.YtpidmpefodnffaaGreatDoor
open Go.RowKit Go.Lib
/-- A block that holds texts and nothing else. -/
def Blk (g : Nat) (l : List Bs) (w : World) : Prop := w.heap[g]? = some (.cells (cellsS l) 9 (0, 0))
theorem cellsS_list (l : List Bs) : (cellsS l).toList = l.map fun x => S x := by simp [cellsS]
theorem cellsS_size (l : List Bs) : (cellsS l).size = l.length := by simp [cellsS]
theorem Blk.at {g : Nat} {l : List Bs} {w : World} (h : Blk g l w) (j : Nat) (hj : j < l.length) : w.cell? ⟨g, j, none⟩ = some (S (l.getD j [])) := by
  rw [cell_of_row w g j _ 9 (0, 0) h]
  simp [cellsS, hj]
theorem Blk.sts {g : Nat} {l : List Bs} {w : World} (h : Blk g l w) : Sts w (some ⟨g, 0, none⟩) l.length l := by
  refine ⟨rfl, fun _ => ⟨g, 0, rfl, fun j hj => ?_⟩⟩
  rw [Nat.zero_add]
  exact h.at j hj
theorem Blk.keep {g : Nat} {l : List Bs} {w w' : World} (h : Blk g l w) (k : Below w.heap.size w w') : Blk g l w' := by
  unfold Blk
  rw [k.block g (Array.getElem?_eq_some_iff.1 h).1]
  exact h
theorem Blk.lt {g : Nat} {l : List Bs} {w : World} (h : Blk g l w) : g < w.heap.size := (Array.getElem?_eq_some_iff.1 h).1
theorem Sts.take {w : World} {a : Option Addr} {n : Nat} {l : List Bs} (h : Sts w a n l) (m : Nat) (hm : m ≤ n) : Sts w a m (l.take m) := by
  refine ⟨by rw [List.length_take, ← h.1]; omega, fun h0 => ?_⟩
  obtain ⟨p, o, e, hc⟩ := h.2 (by omega)
  refine ⟨p, o, e, fun j hj => ?_⟩
  have e2 : (l.take m).getD j [] = l.getD j [] := by
    rw [List.getD_eq_getElem?_getD, List.getD_eq_getElem?_getD, List.getElem?_take, if_pos hj]
  rw [e2]
  exact hc j (by omega)
theorem made9 (m : Nat) : (madeCells #[Value.string ⟨#[]⟩] m).toList = List.replicate m (S []) := by
  unfold madeCells
  apply List.ext_getElem
  · simp
  · intro i h1 h2
    simp [Nat.mod_one]
/-- make([]string, n). -/
theorem makeS {ops : Array Oper} {rest : List Oper} {o : Oper} {a : Act} {w : World} {Q : Exit → Act → World → Prop} (hgd : o.guard = none) (l c : Operand) (hop : o.op = Op.makeSlice 22 l c)
    (L C : Int) (n : Nat) (hl : a.eval l = .int .i64 L) (hc : a.eval c = .int .i64 C) (hL : L = (n : Int)) (hC : C = (n : Int)) (hn : n ≤ 8796093022200)
    (h : ∀ w', Blk w.heap.size (List.replicate n []) w' → Below w.heap.size w w' → wpList Tryz.prog ops Q rest (a.put o.dst (.slice (some ⟨w.heap.size, 0, none⟩) n n)) w') : wpList Tryz.prog ops Q (o :: rest) a w := by
  obtain ⟨i0, hi, hz0, hz1, hz2⟩ := info_parts info9
  refine wpList_make_full w hgd l c 22 hop w.heap.size 9 i0 _ 1 Tryz.underlying22 hi hz0 hz1 .i64 .i64 L C n hl hc hL hC (by rw [hz2]; omega) (by unfold maxLen; omega) (Nat.le_refl _) ?_
  intro w' ho hg
  refine h w' ?_ ((Below.refl _ _).grown hg (Nat.le_refl _) (fun k e => by cases e))
  rcases ho.2 with ⟨e, _⟩ | ⟨g, cap, cur, e, _, hgg, _, _, hsz, htk⟩
  · cases e
  · simp only [Value.slice.injEq, Option.some.injEq, Addr.mk.injEq, and_true] at e
    obtain ⟨rfl, rfl⟩ : w.heap.size = g ∧ n = cap := ⟨e.1, e.2.2⟩
    unfold Blk
    rw [hgg]
    have h1 : cur.toList = List.replicate n (S []) := by
      have h2 : cur.toList.take (n * 1) = cur.toList := List.take_of_length_le (by simp; omega)
      rw [← h2, htk, Nat.mul_one]
      exact made9 n
    have e3 : cellsS (List.replicate n []) = cur := by
      rw [← Array.toList_inj, cellsS_list, h1]
      simp
    rw [e3]
theorem run_copy1 (w : World) (ty : TypeId) (g dLen dCap : Nat) (a : Addr) (sLen sCap : Nat) (cur : Array Value) (cs : List Value) (m : Nat) (hm : m = Nat.min sLen dLen)
    (hg : w.heap[g]? = some (.cells cur 9 (0, 0))) (hn : cs.length = m)
    (hsrc : ∀ j v, cs[j]? = some v → w.cell? (a.add j) = some v) (hfit : cs.length ≤ cur.size) (h1 : ∀ v ∈ cs, v.oneCell' = true) :
    (Builtin.copy_ #[22, 22] ty #[.slice (some ⟨g, 0, none⟩) dLen dCap, .slice (some a) sLen sCap]).run Tryz.prog w =
      .ok (goInt m) (w.setRow g (cs ++ cur.toList.drop cs.length).toArray) := by
  have hl := run_loadCells_list (P := Tryz.prog) w a cs hsrc
  have hst := run_storeCells_at Tryz.prog g 0 9 cs 0 cur w hg (by simpa using hfit) h1
  obtain ⟨i0, hi, hz0, hz1, hz2⟩ := info_parts info9
  rw [hn] at hl
  simp only [Nat.zero_add, List.take_zero, List.nil_append] at hst
  simp [Builtin.copy_, run_underlying Tryz.underlying22, Builtin.lenOf, Builtin.firstCells, sizeOf, typeInfo, hi, hz1, ← hm, hl, hst]
/-- copy of texts into a block of one's own. -/
theorem copyS {ops : Array Oper} {rest : List Oper} {o : Oper} {a : Act} {w : World} {Q : Exit → Act → World → Prop} (hgd : o.guard = none) (d s : Operand)
    (ho : o.op = .call { callee := .builtin .copy, args := #[d, s], argTypes := #[22, 22] }) (g dn dcap : Nat) (sp : Option Addr) (sn scap : Nat) (hd : a.eval d = .slice (some ⟨g, 0, none⟩) dn dcap) (hs : a.eval s = .slice sp sn scap)
    (fs gs : List Bs) (hb : Blk g fs w) (hf : Sts w sp sn gs) (hnone : sp = none → scap = 0) (hdn : dn ≤ fs.length)
    (h : ∀ w', Blk g (gs.take (min sn dn) ++ fs.drop (min sn dn)) w' → Only (fun k => k = g) w w' → wpList Tryz.prog ops Q rest (a.put o.dst (goInt (min sn dn : Nat))) w') : wpList Tryz.prog ops Q (o :: rest) a w := by
  refine wpList_plain hgd fun K hK => ?_
  have key : ∃ w', (Builtin.copy_ #[22, 22] o.type #[.slice (some ⟨g, 0, none⟩) dn dcap, .slice sp sn scap]).run Tryz.prog w = .ok (goInt (min sn dn : Nat)) w' ∧ Blk g (gs.take (min sn dn) ++ fs.drop (min sn dn)) w' ∧ Only (fun k => k = g) w w' := by
    have h9 : ((Tryz.prog.info? 9).map (·.size)).isSome = true := by kernel_rfl
    cases sp with
    | none =>
      have hsn : sn = 0 := by
        rcases Nat.eq_zero_or_pos sn with h0 | h0
        · exact h0
        · obtain ⟨p, o, e, _⟩ := hf.2 h0
          cases e
      have hsc := hnone rfl
      subst hsn hsc
      refine ⟨w, ?_, ?_, Only.refl _ _⟩
      · rw [run_copy_nil (P := Tryz.prog) w 22 22 o.type 9 ⟨g, 0, none⟩ dn dcap Tryz.underlying22 h9]
        simp
      · simpa using hb
    | some ad =>
      obtain ⟨m, hm⟩ : ∃ m, m = min sn dn := ⟨_, rfl⟩
      rw [← hm]
      have hl : ((gs.take m).length) = m := by rw [List.length_take, ← hf.1]; omega
      have hcl : ((gs.take m).map fun x => S x).length = m := by rw [List.length_map, hl]
      have hrun := run_copy1 w o.type g dn dcap ad sn scap (cellsS fs) ((gs.take m).map fun x => S x) m hm hb hcl (by
        intro j v hv
        have hj : j < m := by have := (List.getElem?_eq_some_iff.1 hv).1; omega
        obtain ⟨p, o, e, hcells⟩ := hf.2 (by omega)
        cases e
        have hadd : (⟨p, o, none⟩ : Addr).add j = ⟨p, o + j, none⟩ := by unfold Addr.add; split <;> simp_all
        rw [hadd, hcells j (by omega), ← hv]
        have hjl : j < gs.length := by rw [← hf.1]; omega
        simp [hj, hjl]) (by rw [hcl, cellsS_size]; omega) (by intro v hv; obtain ⟨x, _, rfl⟩ := List.mem_map.1 hv; rfl)
      refine ⟨_, hrun, ?_, setRow_Only w g _⟩
      unfold Blk
      rw [setRow_heap w g _ _ 9 _ hb, hcl, cellsS_list]
      simp [cellsS, List.map_drop]
  obtain ⟨w', hrun, hb', hk⟩ := key
  unfold Oper.wp
  simp [execOp, ho, resolve, invoke, builtin, hd, hs, hrun, Result.andThen]
  exact hK _ _ (h w' hb' hk)
theorem Blk.set {g : Nat} {l : List Bs} {w : World} (h : Blk g l w) (k : Nat) (x : Bs) : Blk g (l.set k x) (w.setCell ⟨g, k, none⟩ (S x)) := by
  unfold Blk
  rw [heap_setCell_same w g k _ 9 _ h]
  have e : cellsS (l.set k x) = (cellsS l).setIfInBounds k (S x) := by
    rw [← Array.toList_inj, cellsS_list, Array.toList_setIfInBounds, cellsS_list, List.map_set]
  rw [e]
def spare : Bs := [115, 112, 97, 114, 101]
theorem lent_sets (l : List Bs) (x y : Bs) : ((l ++ [x, y]).set l.length spare).set (l.length + 1) spare = l ++ [spare, spare] := by
  rw [List.set_append, if_neg (by omega), Nat.sub_self, List.set_cons_zero, List.set_append, if_neg (by omega), Nat.add_sub_cancel_left, List.set_cons_succ, List.set_cons_zero]
theorem Blk.part {g : Nat} {l m : List Bs} {w : World} (h : Blk g (l ++ m) w) : Sts w (some ⟨g, 0, none⟩) l.length l := by
  have := h.sts.take l.length (by simp)
  rw [List.take_left'] at this
  · exact this
  · rfl
theorem lent_laid {w w2 : World} {n : Nat} {l : List Bs} (hn : n = l.length) (h : Blk w.heap.size (l.take (min n (n + 2)) ++ (List.replicate (n + 2) []).drop (min n (n + 2))) w2) (hb : Below w.heap.size w w2) :
    ∃ o1 o2, w2.frozen? ⟨w.heap.size, n, none⟩ = false ∧ w2.cell? ⟨w.heap.size, n, none⟩ = some o1 ∧ (w2.setCell ⟨w.heap.size, n, none⟩ (.string ⟨#[115, 112, 97, 114, 101]⟩)).frozen? ⟨w.heap.size, n + 1, none⟩ = false ∧ (w2.setCell ⟨w.heap.size, n, none⟩ (.string ⟨#[115, 112, 97, 114, 101]⟩)).cell? ⟨w.heap.size, n + 1, none⟩ = some o2 ∧
      Blk w.heap.size (l ++ [spare, spare]) ((w2.setCell ⟨w.heap.size, n, none⟩ (.string ⟨#[115, 112, 97, 114, 101]⟩)).setCell ⟨w.heap.size, n + 1, none⟩ (.string ⟨#[115, 112, 97, 114, 101]⟩)) ∧ Below w.heap.size w ((w2.setCell ⟨w.heap.size, n, none⟩ (.string ⟨#[115, 112, 97, 114, 101]⟩)).setCell ⟨w.heap.size, n + 1, none⟩ (.string ⟨#[115, 112, 97, 114, 101]⟩)) := by
  rw [show min n (n + 2) = n by omega, List.take_of_length_le (by omega), List.drop_replicate, show n + 2 - n = 2 by omega] at h
  have h3 : Blk w.heap.size (l ++ [[], []]) w2 := h
  have h4 := h3.set n spare
  have h5 := h4.set (n + 1) spare
  rw [hn, lent_sets, ← hn] at h5
  exact ⟨_, _, frz h3 n, h3.at n (by simp; omega), frz h4 (n + 1), h4.at (n + 1) (by simp; omega), h5, (hb.setCell (p := ⟨w.heap.size, n, none⟩) (Nat.le_refl _) _).setCell (p := ⟨w.heap.size, n + 1, none⟩) (Nat.le_refl _) _⟩
set_option maxHeartbeats 4000000 in
set_option maxRecDepth 8000 in
theorem lent_any (a : Option Addr) (n cap : Nat) (l : List Bs) (w : World) (hp : Sts w a n l) (hnone : a = none → cap = 0) (hn : n ≤ 8796093022100) :
    Calls Tryz.prog 11 #[.slice a n cap] w fun e w' => e = .returned (.slice (some ⟨w.heap.size, 0, none⟩) n (n + 2)) ∧ Blk w.heap.size (l ++ [spare, spare]) w' ∧ Below w.heap.size w w' := by
  have HN := hide hp.1
  have HP := hide hp
  have HO := hide hnone
  clear hp hnone
  go_enter Tryz.func11, Tryz.ntmps11
  go_wp2_with (first | (refine makeS rfl (.tmp 6) (.tmp 6) rfl _ _ (n + 2) (by rfl) (by rfl) (by omega) (by omega) (by omega) ?_; intro w1 hb1 k1; have HB1 := hide hb1; have HK1 := hide k1; clear hb1 k1) | (refine copyS rfl (.tmp 8) (.tmp 9) rfl w.heap.size (n + 2) (n + 2) a n cap (by rfl) (by rfl) (List.replicate (n + 2) []) l (unhide HB1) ((unhide HP).below (unhide HK1)) (unhide HO) (by simp) ?_; intro w2 hb2 k2; have HL := hide (lent_laid (unhide HN) hb2 ((k2).below (unhide HK1) (unhide HK1).size (fun k e => by omega))); obtain ⟨o1, o2, z1, c1, z2, c2, _⟩ := unhide HL; clear hb2 k2 HB1 HK1))
  go_ret
  obtain ⟨o1, o2, z1, c1, z2, c2, h5, h6⟩ := unhide HL
  exact ⟨rfl, h5, h6⟩
set_option maxHeartbeats 4000000 in
set_option maxRecDepth 8000 in
theorem whole_any (g : Nat) (a : Option Addr) (n cap : Nat) (l : List Bs) (w : World) (hb : Blk g (l ++ [spare, spare]) w) (hp : Sts w a n l) (hn : n ≤ 8796093022100) :
    Calls Tryz.prog 14 #[.slice (some ⟨g, 0, none⟩) n (n + 2), .slice a n cap] w fun e w' => e = .returned (.bool true) ∧ Below w.heap.size w w' := by
  have e0 := hp.1
  subst e0
  have hs := same_any (some ⟨g, 0, none⟩) a l.length l.length (l.length + 2) cap l l w hb.part hp (by omega) (by omega)
  rw [decide_eq_true rfl] at hs
  have HS := hide hs
  clear hs
  have HB := hide hb
  clear hp hb
  go_enter Tryz.func14, Tryz.ntmps14
  go_wp2_with fail
  refine (unhide HS).mono ?_
  rintro e w1 ⟨rfl, b1⟩
  have hb1 := (unhide HB).keep b1
  have B1 := hide b1
  have c0 : w1.cell? ⟨g, l.length, none⟩ = some (.string ⟨#[115, 112, 97, 114, 101]⟩) := by
    rw [hb1.at l.length (by simp)]
    simp [spare]
  have c1 : w1.cell? ⟨g, l.length + 1, none⟩ = some (.string ⟨#[115, 112, 97, 114, 101]⟩) := by
    rw [hb1.at (l.length + 1) (by simp)]
    simp [spare]
  generalize l.length = n at *
  clear b1 HS HB hb1
  go_wp2
  go_ret
  exact ⟨rfl, unhide B1⟩
end Go.Proofs.YtpidmpefodnffaaGreatDoor
namespace Go.Proofs.YtpidmpefodnffaaGreatDoor
open Go.RowKit Go.Lib
def mk (i : Nat) : Bs := [109, 97, 114, 107, UInt8.ofNat i]
/-- A slice of fields that has its block for itself. -/
def Row (w : World) (v : Value) (L : List Bs) : Prop := w.ownsRow 0 9 1 v L.length (L.map fun x => S x)
theorem Row.form {w : World} {v : Value} {L : List Bs} (h : Row w v L) : (v = .slice none 0 0 ∧ L = []) ∨ ∃ g cap cur, v = .slice (some ⟨g, 0, none⟩) L.length cap ∧ w.heap[g]? = some (.cells cur 9 (0, 0)) ∧ L.length ≤ cap ∧ cap ≤ maxLen ∧ cur.size = cap * 1 ∧ cur.toList.take (L.length * 1) = L.map fun x => S x := by
  rcases h.2 with ⟨e, q⟩ | ⟨g, cap, cur, e1, _, e2, e3, e4, e5, e6⟩
  · exact .inl ⟨e, List.eq_nil_of_length_eq_zero q⟩
  · exact .inr ⟨g, cap, cur, e1, e2, e3, e4, e5, e6⟩
theorem Row.keep {w w' : World} {v : Value} {L : List Bs} (h : Row w v L) (hb : ∀ g, v.ownBlock = some g → w'.heap[g]? = w.heap[g]?) : Row w' v L := by
  refine ⟨h.1, ?_⟩
  rcases h.2 with q | ⟨g, cap, cur, e1, e2, e3, e4⟩
  · exact .inl q
  · exact .inr ⟨g, cap, cur, e1, e2, (hb g (by rw [e1]; rfl)).trans e3, e4⟩
theorem Row.lt {w : World} {v : Value} {L : List Bs} (h : Row w v L) : ∀ g, v.ownBlock = some g → g < w.heap.size := fun g hg => (World.ownsRow.lt h g hg).2
theorem Row.below {w w' : World} {v : Value} {L : List Bs} (h : Row w v L) (k : Below w.heap.size w w') : Row w' v L := h.keep (fun g hg => k.block g (h.lt g hg))
theorem Row.fls {w : World} {v : Value} {L : List Bs} (h : Row w v L) : ∃ p cap, v = .slice p L.length cap ∧ Sts w p L.length L := by
  have hO : OwnS 0 w v L := h
  obtain ⟨p, cap, e⟩ := hO.form
  subst e
  exact ⟨p, cap, rfl, hO.sts⟩
/-- A text of it is written over. -/
theorem Row.set {w : World} {v : Value} {L : List Bs} (h : Row w v L) (g k : Nat) (hg : v.ownBlock = some g) (f : Bs) : Row (w.setCell ⟨g, k, none⟩ (S f)) v (L.set k f) := by
  rcases h.form with ⟨e, _⟩ | ⟨g', cap, cur, e1, e2, e3, e4, e5, e6⟩
  · rw [e] at hg; cases hg
  · have eg : g' = g := by rw [e1] at hg; simpa [Value.ownBlock] using hg
    subst eg
    refine ⟨by simp, .inr ⟨g', cap, cur.setIfInBounds k (S f), by rw [List.length_set]; exact e1, Nat.zero_le _, ?_, by rw [List.length_set]; exact e3, e4, by simp [e5], ?_⟩⟩
    · rw [heap_setCell_same w g' k cur 9 (S f) e2]
    · rw [List.length_set, Array.toList_setIfInBounds, List.take_set, e6, List.map_set]
theorem setCells_other {w : World} {g k : Nat} {a : Value} {i : Nat} (h : i ≠ g) : (w.setCell ⟨g, k, none⟩ a).heap[i]? = w.heap[i]? := by
  rw [Below.heap_setCell _ _ _ _ h]
/-- What an append of one field leaves as it was: every other block, and of the slice's own block what stands below its length. -/
structure Grown (v : Value) (n : Nat) (w w' : World) : Prop where
  os : w'.os = w.os
  tape : w'.tape = w.tape
  output : w'.output = w.output
  size : w.heap.size ≤ w'.heap.size
  block : ∀ k, k < w.heap.size → v.ownBlock ≠ some k → w'.heap[k]? = w.heap[k]?
  cell : ∀ g j, v.ownBlock = some g → j < n → w'.cell? ⟨g, j, none⟩ = w.cell? ⟨g, j, none⟩
  kind : ∀ g cur, v.ownBlock = some g → w.heap[g]? = some (.cells cur 9 (0, 0)) → ∃ cur', w'.heap[g]? = some (.cells cur' 9 (0, 0))
theorem grow_run (ty : TypeId) (w : World) (v : Value) (L : List Bs) (f : Bs) (h : Row w v L) (q : Nat) (c : Nat) (hq : w.heap[q]? = some (.cells #[S f] 9 (0, 0))) (hL : L.length ≤ 1000000000) :
    ∃ v' w', (Builtin.append_ #[22, 22] ty #[v, .slice (some ⟨q, 0, none⟩) 1 c]).run Tryz.prog w = .ok v' w' ∧ Row w' v' (L ++ [f]) ∧ Grown v L.length w w' ∧ ((∃ g, v.ownBlock = some g ∧ v'.ownBlock = some g) ∨ v'.ownBlock = some w.heap.size) := by
  obtain ⟨i0, hi, hz0, hz1, hz2⟩ := info_parts info9
  have hnews : ∀ j u, [S f][j]? = some u → w.cell? ((⟨q, 0, none⟩ : Addr).add j) = some u := by
    intro j u hj
    have hadd : ∀ i, (⟨q, 0, none⟩ : Addr).add i = ⟨q, i, none⟩ := fun i => by unfold Addr.add; split <;> simp_all
    rw [hadd, cell_of_row _ _ _ _ 9 (0, 0) hq]
    match j, hj with
    | 0, hj => simpa using hj
    | (j + 1), hj => simp at hj
  have hone : ∀ u ∈ [S f], u.oneCell' = true := by
    intro u hu
    simp at hu
    rcases hu with rfl; rfl
  obtain ⟨v', w', hr, ho, hg, hv⟩ := run_append_own (P := Tryz.prog) w 0 22 ty 9 i0 _ 1 16 Tryz.underlying22 hi hz0 hz1 hz2 rfl (by decide) v L.length ((L.map fun x => S x)) h ⟨q, 0, none⟩ 1 c [S f] rfl hnews hone (by unfold maxLen; omega) (by omega) (Nat.zero_le _)
  refine ⟨v', w', hr, ?_, ?_⟩
  · unfold Row
    rw [List.length_append, List.map_append]
    exact ho
  have hal : ∀ (o : Obj) (k : Nat), k < w.heap.size → (w.drew.alloc o).heap[k]? = w.heap[k]? := fun o k hk => Below.heap_alloc w.drew o k hk
  have hgrow : ∀ o, Grown v L.length w (w.drew.alloc o) := fun o => by
    refine ⟨rfl, rfl, rfl, by simp, fun k hk _ => hal o k hk, fun g j hg _ => ?_, fun g cur hg e => ⟨cur, (hal o g (h.lt g hg)).trans e⟩⟩
    exact World.cell?_of_block (hal o g (h.lt g hg))
  rcases h.form with ⟨rfl, rfl⟩ | ⟨g, cap, cur, rfl, e2, e3, e4, e5, e6⟩
  · have hr2 := run_append_nil (P := Tryz.prog) w 22 ty 9 i0 _ Tryz.underlying22 hi hz0 ⟨q, 0, none⟩ 1 c [S f] (by rw [hz1]; rfl) hnews (by omega) (by omega) (by rw [hz2]; omega)
    rw [hr2] at hr
    cases hr
    exact ⟨hgrow _, .inr rfl⟩
  · by_cases hroom : L.length + 1 ≤ cap
    · have hfit : L.length * i0.size + [S f].length ≤ cur.size := by
        rw [hz1, e5]
        show L.length * 1 + 1 ≤ cap * 1
        omega
      have hr2 := run_append_room (P := Tryz.prog) w 22 ty 9 i0 Tryz.underlying22 hi g L.length cap cur e2 ⟨q, 0, none⟩ 1 c [S f] (by rw [hz1]; rfl) hnews hone hroom hfit
      rw [hr2] at hr
      cases hr
      refine ⟨⟨rfl, rfl, rfl, by simp, fun k _ hk => setRow_other w g k _ (fun e => hk (by simp [Value.ownBlock, e])), fun g' j hg' hj => ?_, fun g' cur' hg' e => by
        obtain rfl : g = g' := by simpa [Value.ownBlock] using hg'
        exact ⟨_, setRow_heap w g cur _ 9 _ e2⟩⟩, .inl ⟨g, rfl, rfl⟩⟩
      obtain rfl : g = g' := by simpa [Value.ownBlock] using hg'
      rw [cell_of_row _ _ _ _ 9 (0, 0) (setRow_heap w g cur _ 9 _ e2), cell_of_row _ _ _ _ 9 (0, 0) e2, hz1]
      have hlt : j < cur.size := by omega
      have e : (cur.toList.take (L.length * 1) ++ [S f] ++ cur.toList.drop (L.length * 1 + [S f].length))[j]? = cur.toList[j]? := by
        rw [List.append_assoc, List.getElem?_append_left (by have := congrArg List.length e6; rw [List.length_map] at this; omega), List.getElem?_take, if_pos (by omega)]
      simpa using e
    · have holds : ∀ j u, ((L.map fun x => S x))[j]? = some u → w.cell? ((⟨g, 0, none⟩ : Addr).add j) = some u := World.ownsRow.cells h (g := g) rfl
      have hr2 := run_append_grow (P := Tryz.prog) w 22 ty 9 i0 _ Tryz.underlying22 hi hz0 ⟨g, 0, none⟩ L.length cap ((L.map fun x => S x)) (by rw [hz1]; simp) holds ⟨q, 0, none⟩ 1 c [S f] (by rw [hz1]; rfl) hnews (by omega) (by omega) (growslice_fits (by omega) (by rw [hz2]; omega))
      rw [hr2] at hr
      cases hr
      exact ⟨hgrow _, .inr rfl⟩
/-- x = append(x, f), the new field in a block that was just laid. -/
theorem growF {ops : Array Oper} {rest : List Oper} {o : Oper} {a : Act} {Q : Exit → Act → World → Prop} (hgd : o.guard = none) (s x : Operand)
    (ho : o.op = .call { callee := .builtin .append, args := #[s, x], argTypes := #[22, 22] }) (v : Value) (L : List Bs) (hs : a.eval s = v) (w0 : World) (f : Bs) (hb : Row w0 v L)
    (hx : a.eval x = .slice (some ⟨w0.heap.size, 0, none⟩) 1 1) (hL : L.length ≤ 1000000000)
    (h : ∀ v' w', Row w' v' (L ++ [f]) → Grown v L.length (w0.alloc (.cells #[S f] 9)) w' → ((∃ g, v.ownBlock = some g ∧ v'.ownBlock = some g) ∨ v'.ownBlock = some (w0.heap.size + 1)) → wpList Tryz.prog ops Q rest (a.put o.dst v') w') : wpList Tryz.prog ops Q (o :: rest) a (w0.alloc (.cells #[S f] 9)) := by
  refine wpList_plain hgd fun K hK => ?_
  have hb' : Row (w0.alloc (.cells #[S f] 9)) v L := hb.keep (fun g hg => Below.heap_alloc w0 _ g (hb.lt g hg))
  have hq : (w0.alloc (.cells #[S f] 9)).heap[w0.heap.size]? = some (.cells #[S f] 9 (0, 0)) := by
    exact heap_alloc_new _ _
  obtain ⟨v', w', hr, h2, h3, h4⟩ := grow_run o.type _ v L f hb' w0.heap.size 1 hq hL
  have hsz : (w0.alloc (.cells #[S f] 9)).heap.size = w0.heap.size + 1 := by simp
  rw [hsz] at h4
  unfold Oper.wp execOp
  simp only [ho, resolve, invoke, builtin, Sem.run_bind, Sem.run_pure, Result.andThen_ok, List.map_toArray, List.map_cons, List.map_nil, hs, hx, hr]
  exact hK _ _ (h v' w' h2 h3 h4)
theorem info22 : (Tryz.prog.info? 22).map (fun i => (i.zero, i.size, i.bytes)) = some (some (.slice none 0 0), 1, 24) := by kernel_rfl
/-- A row of one's own of values of one cell each: slices (type 22). -/
def Seq (b : Nat) (e : TypeId) (w : World) (v : Value) (xs : List Value) : Prop := w.ownsRow b e 1 v xs.length xs
theorem Seq.nil (b : Nat) (e : TypeId) (w : World) : Seq b e w (.slice none 0 0) [] := World.ownsRow_nil _ _ _ _
theorem Seq.keep {b : Nat} {e : TypeId} {w w' : World} {v : Value} {xs : List Value} (h : Seq b e w v xs) (hb : ∀ g, v.ownBlock = some g → w'.heap[g]? = w.heap[g]?) : Seq b e w' v xs := by
  refine ⟨h.1, ?_⟩
  rcases h.2 with q | ⟨g, cap, cur, e1, e2, e3, e4⟩
  · exact .inl q
  · exact .inr ⟨g, cap, cur, e1, e2, (hb g (by rw [e1]; rfl)).trans e3, e4⟩
theorem Seq.lt {b : Nat} {e : TypeId} {w : World} {v : Value} {xs : List Value} (h : Seq b e w v xs) : ∀ g, v.ownBlock = some g → g < w.heap.size := fun g hg => (World.ownsRow.lt h g hg).2
theorem Seq.high {b : Nat} {e : TypeId} {w : World} {v : Value} {xs : List Value} (h : Seq b e w v xs) : ∀ g, v.ownBlock = some g → b ≤ g := fun g hg => (World.ownsRow.lt h g hg).1
theorem Seq.below {b : Nat} {e : TypeId} {w w' : World} {v : Value} {xs : List Value} (h : Seq b e w v xs) (k : Below w.heap.size w w') : Seq b e w' v xs := h.keep (fun g hg => k.block g (h.lt g hg))
/-- What its block holds. -/
theorem Seq.kind {b : Nat} {e : TypeId} {w : World} {v : Value} {xs : List Value} (h : Seq b e w v xs) : ∀ g, v.ownBlock = some g → ∃ cur, w.heap[g]? = some (.cells cur e (0, 0)) := by
  intro g hg
  rcases h.2 with ⟨q, _⟩ | ⟨g', cap, cur, e1, e2, e3, e4⟩
  · rw [q] at hg; cases hg
  · have : g' = g := by rw [e1] at hg; simpa [Value.ownBlock] using hg
    subst this
    exact ⟨cur, e3⟩
theorem Row.kind {w : World} {v : Value} {L : List Bs} (h : Row w v L) : ∀ g, v.ownBlock = some g → ∃ cur, w.heap[g]? = some (.cells cur 9 (0, 0)) := by
  intro g hg
  rcases h.form with ⟨q, _⟩ | ⟨g', cap, cur, e1, e2, _⟩
  · rw [q] at hg; cases hg
  · have : g' = g := by rw [e1] at hg; simpa [Value.ownBlock] using hg
    subst this
    exact ⟨cur, e2⟩
theorem Seq.at {b : Nat} {e : TypeId} {w : World} {v : Value} {xs : List Value} (h : Seq b e w v xs) (k : Nat) (hk : k < xs.length) : ∃ g cap, v = .slice (some ⟨g, 0, none⟩) xs.length cap ∧ w.cell? ⟨g, k, none⟩ = some (xs.getD k undef) := by
  rcases h.2 with ⟨_, q⟩ | ⟨g, cap, cur, e1, e2, e3, e4⟩
  · omega
  · refine ⟨g, cap, e1, ?_⟩
    have := World.ownsRow.cells h (g := g) (by rw [e1]; rfl) k (xs.getD k undef) (by simp [hk])
    have hadd : ∀ i, (⟨g, 0, none⟩ : Addr).add i = ⟨g, i, none⟩ := fun i => by unfold Addr.add; split <;> simp_all
    rw [hadd] at this
    exact this
theorem Seq.len {b : Nat} {e : TypeId} {w : World} {v : Value} {xs : List Value} (h : Seq b e w v xs) : ∃ p cap, v = .slice p xs.length cap := by
  rcases h.2 with ⟨q, q2⟩ | ⟨g, cap, cur, e1, _⟩
  · exact ⟨none, 0, by rw [q, q2]⟩
  · exact ⟨_, cap, e1⟩
/-- all = append(all, x): every block but its own stands. -/
theorem push30 {b : Nat} {ops : Array Oper} {rest : List Oper} {o : Oper} {a : Act} {Q : Exit → Act → World → Prop} (hgd : o.guard = none) (s x : Operand)
    (ho : o.op = .call { callee := .builtin .append, args := #[s, x], argTypes := #[26, 26] }) (v : Value) (xs : List Value) (hs : a.eval s = v) (w0 : World) (p : Option Addr) (n c : Nat) (hb : Seq b 22 w0 v xs)
    (hx : a.eval x = .slice (some ⟨w0.heap.size, 0, none⟩) 1 1) (hL : xs.length ≤ 1000000000) (hB : b ≤ w0.heap.size)
    (h : ∀ v' w', Seq b 22 w' v' (xs ++ [.slice p n c]) → (w0.alloc (.cells #[.slice p n c] 22)).grownBy w' v.ownBlock → wpList Tryz.prog ops Q rest (a.put o.dst v') w') : wpList Tryz.prog ops Q (o :: rest) a (w0.alloc (.cells #[.slice p n c] 22)) := by
  obtain ⟨i0, hi, hz0, hz1, hz2⟩ := info_parts info22
  refine wpList_append_own _ hgd s x 26 ho b 22 i0 (.slice none 0 0) 1 24 Tryz.underlying26 hi hz0 hz1 hz2 rfl (by decide) v xs.length xs hs (hb.keep (fun g hg => Below.heap_alloc w0 _ g (hb.lt g hg))) ⟨w0.heap.size, 0, none⟩ 1 1 [.slice p n c] hx rfl ?_ ?_ (by unfold maxLen; omega) (by omega) (by simp; omega) ?_
  · intro j u hj
    match j, hj with
    | 0, hj => simp at hj; subst hj; simp [Addr.add]
    | (j + 1), hj => simp at hj
  · intro u hu; simp at hu; subst hu; rfl
  · intro v' w' ho' hg _
    refine h v' w' ?_ hg
    unfold Seq
    rw [List.length_append]
    exact ho'
/-- A view of a list of marks: where, how long, whose. -/
structure View where
  p : Option Addr
  n : Nat
  c : Nat
  i : Nat
def View.val (x : View) : Value := .slice x.p x.n x.c
def View.good (w : World) (x : View) : Prop := Sts w x.p x.n (List.replicate x.n (Go.Proofs.YtpidmpefodnffaaGreatDoor.mk x.i))
theorem View.keep {w w' : World} {x : View} (h : x.good w) (hc : ∀ g j, x.p = some ⟨g, 0, none⟩ → j < x.n → w'.cell? ⟨g, j, none⟩ = w.cell? ⟨g, j, none⟩) (ho : ∀ g o, x.p = some ⟨g, o, none⟩ → o = 0) : x.good w' := by
  refine ⟨h.1, fun h0 => ?_⟩
  obtain ⟨p, o, e, hcells⟩ := h.2 h0
  have := ho p o e
  subst this
  refine ⟨p, 0, e, fun j hj => ?_⟩
  rw [hc p (0 + j) e (by omega)]
  exact hcells j hj
/-- A row of n lists of fields, in block G: each list has a block of its own, no two the same, none below B. -/
structure Rws (B G n : Nat) (vs : Nat → Value) (w : World) (Ls : Nat → List Bs) : Prop where
  kind : ∃ cur, w.heap[G]? = some (.cells cur 22 (0, 0))
  high : B ≤ G
  cell : ∀ i, i < n → w.cell? ⟨G, i, none⟩ = some (vs i)
  row : ∀ i, i < n → Row w (vs i) (Ls i)
  apart : ∀ i j, i < n → j < n → i ≠ j → ∀ g, (vs i).ownBlock = some g → (vs j).ownBlock ≠ some g
  above : ∀ i, i < n → ∀ g, (vs i).ownBlock = some g → B ≤ g
variable {B G n : Nat} {vs : Nat → Value} {w w' : World} {Ls : Nat → List Bs}
theorem Rws.neG (h : Rws B G n vs w Ls) (i : Nat) (hi : i < n) : (vs i).ownBlock ≠ some G := by
  intro e
  obtain ⟨c1, h1⟩ := h.kind
  obtain ⟨c2, h2⟩ := (h.row i hi).kind G e
  rw [h1] at h2
  cases h2
theorem Rws.ltG (h : Rws B G n vs w Ls) : G < w.heap.size := by
  obtain ⟨c1, h1⟩ := h.kind
  exact (Array.getElem?_eq_some_iff.1 h1).1
theorem Rws.below (h : Rws B G n vs w Ls) (k : Below w.heap.size w w') : Rws B G n vs w' Ls := by
  obtain ⟨c1, h1⟩ := h.kind
  have e := k.block G h.ltG
  exact ⟨⟨c1, e.trans h1⟩, h.high, fun i hi => (World.cell?_of_block e).trans (h.cell i hi), fun i hi => (h.row i hi).below k, h.apart, h.above⟩
/-- A field of the i-th list is written over. -/
theorem Rws.set (h : Rws B G n vs w Ls) (i k g : Nat) (hi : i < n) (hg : (vs i).ownBlock = some g) (f : Bs) :
    Rws B G n vs (w.setCell ⟨g, k, none⟩ (S f)) (fun j => if j = i then (Ls i).set k f else Ls j) := by
  have hne : G ≠ g := fun e => h.neG i hi (by rw [hg, e])
  have e := setCells_other (w := w) (k := k) (a := S f) hne
  obtain ⟨c1, h1⟩ := h.kind
  refine ⟨⟨c1, e.trans h1⟩, h.high, fun j hj => (World.cell?_of_block e).trans (h.cell j hj), fun j hj => ?_, h.apart, h.above⟩
  by_cases hji : j = i
  · subst hji
    rw [if_pos rfl]
    exact (h.row j hj).set g k hg f
  · rw [if_neg hji]
    exact (h.row j hj).keep (fun g' hg' => setCells_other (fun e' => h.apart j i hj hi hji g' hg' (by rw [hg, e'])))
/-- Where the i-th list lies, if it has a k-th field. -/
theorem Rws.at (h : Rws B G n vs w Ls) (i k : Nat) (hi : i < n) (hk : k < (Ls i).length) : ∃ g cap cur, vs i = .slice (some ⟨g, 0, none⟩) (Ls i).length cap ∧ (vs i).ownBlock = some g ∧ w.heap[g]? = some (.cells cur 9 (0, 0)) ∧ k < cur.size ∧ B ≤ g ∧ g < w.heap.size ∧ g ≠ G := by
  rcases (h.row i hi).form with ⟨_, q⟩ | ⟨g, cap, cur, e1, e2, e3, e4, e5, e6⟩
  · rw [q] at hk; simp at hk
  · have eo : (vs i).ownBlock = some g := by rw [e1]; rfl
    refine ⟨g, cap, cur, e1, eo, e2, by omega, h.above i hi g eo, (Array.getElem?_eq_some_iff.1 e2).1, fun e => h.neG i hi (by rw [eo, e])⟩
/-- What stands when i lists are all marks and k fields of the next one are. -/
def part (Ls : Nat → List Bs) (i k : Nat) : Nat → List Bs := fun j => if j < i then List.replicate (Ls j).length (mk j) else if j = i then List.replicate (min k (Ls j).length) (mk j) ++ (Ls j).drop k else Ls j
theorem part_zero (Ls : Nat → List Bs) : part Ls 0 0 = Ls := by
  funext j
  unfold part
  by_cases h : j = 0 <;> simp [h]
theorem part_len (Ls : Nat → List Bs) (i k j : Nat) : (part Ls i k j).length = (Ls j).length := by
  unfold part
  split
  · simp
  · split
    · simp; omega
    · rfl
theorem part_step (Ls : Nat → List Bs) (i k : Nat) (hk : k < (Ls i).length) : (fun j => if j = i then (part Ls i k i).set k (mk i) else part Ls i k j) = part Ls i (k + 1) := by
  funext j
  by_cases hj : j = i
  · subst hj
    rw [if_pos rfl]
    unfold part
    rw [if_neg (Nat.lt_irrefl _), if_pos rfl, if_neg (Nat.lt_irrefl _), if_pos rfl, Nat.min_eq_left (Nat.le_of_lt hk), Nat.min_eq_left hk, List.set_append_right _ _ (by simp)]
    simp [List.replicate_succ']
    rw [List.drop_eq_getElem_cons hk]
    rfl
  · rw [if_neg hj]
    unfold part
    simp [hj]
theorem part_next (Ls : Nat → List Bs) (i : Nat) : part Ls i (Ls i).length = part Ls (i + 1) 0 := by
  funext j
  unfold part
  by_cases h1 : j < i
  · rw [if_pos h1, if_pos (by omega)]
  · by_cases h2 : j = i
    · subst h2
      rw [if_neg h1, if_pos rfl, if_pos (by omega)]
      simp
    · rw [if_neg h1, if_neg h2, if_neg (by omega)]
      split <;> simp
/-- The views laid so far, the list x of round i that grows, and the lists still to come (m j: how many marks the j-th has). -/
structure Vst (B G n : Nat) (vs : Nat → Value) (m : Nat → Nat) (lo i : Nat) (V : List View) (x : Value) (len : Nat) (w : World) : Prop where
  build ::
  kind : ∃ cur, w.heap[G]? = some (.cells cur 22 (0, 0))
  high : B ≤ G
  cell : ∀ j, j < n → w.cell? ⟨G, j, none⟩ = some (vs j)
  row : ∀ j, lo ≤ j → j < n → Row w (vs j) (List.replicate (m j) (mk j))
  apart : ∀ j k, lo ≤ j → lo ≤ k → j < n → k < n → j ≠ k → ∀ g, (vs j).ownBlock = some g → (vs k).ownBlock ≠ some g
  above : ∀ j, lo ≤ j → j < n → ∀ g, (vs j).ownBlock = some g → B ≤ g
  xrow : Row w x (List.replicate len (mk i))
  xapart : ∀ j, lo ≤ j → j < n → ∀ g, x.ownBlock = some g → (vs j).ownBlock ≠ some g
  xabove : ∀ g, x.ownBlock = some g → B ≤ g
  good : ∀ v ∈ V, v.good w
  flat : ∀ v ∈ V, ∀ p, v.p = some p → ∃ g cur, p = ⟨g, 0, none⟩ ∧ w.heap[g]? = some (.cells cur 9 (0, 0))
  vapart : ∀ v ∈ V, ∀ g, v.p = some ⟨g, 0, none⟩ → ∀ j, lo ≤ j → j < n → (vs j).ownBlock ≠ some g
  short : ∀ v ∈ V, ∀ g, v.p = some ⟨g, 0, none⟩ → x.ownBlock = some g → v.n ≤ len
  small : ∀ v ∈ V, v.i < n
  size : ∀ v ∈ V, v.n ≤ 1000000
variable {B G n : Nat} {vs : Nat → Value} {m : Nat → Nat} {lo i : Nat} {V : List View} {x : Value} {len : Nat} {w w' : World}
/-- What leaves every block of fields and the row itself leaves all of it. -/
theorem Vst.keep (h : Vst B G n vs m lo i V x len w) (hk : ∀ g cur e, (e = 9 ∨ g = G) → w.heap[g]? = some (.cells cur e (0, 0)) → w'.heap[g]? = w.heap[g]?) : Vst B G n vs m lo i V x len w' := by
  obtain ⟨c, hc⟩ := h.kind
  have eG := hk G c 22 (.inr rfl) hc
  refine ⟨⟨c, eG.trans hc⟩, h.high, fun j hj => (World.cell?_of_block eG).trans (h.cell j hj), fun j h1 h2 => (h.row j h1 h2).keep (fun g hg => ?_), h.apart, h.above, h.xrow.keep (fun g hg => ?_), h.xapart, h.xabove, fun v hv => ?_, fun v hv p hp => ?_, h.vapart, h.short, h.small, h.size⟩
  · obtain ⟨cur, e⟩ := (h.row j h1 h2).kind g hg
    exact hk g cur 9 (.inl rfl) e
  · obtain ⟨cur, e⟩ := h.xrow.kind g hg
    exact hk g cur 9 (.inl rfl) e
  · refine View.keep (h.good v hv) (fun g j hp hj => ?_) (fun g o hp => ?_)
    · obtain ⟨g', cur, e1, e2⟩ := h.flat v hv _ hp
      cases e1
      exact World.cell?_of_block (hk g cur 9 (.inl rfl) e2)
    · obtain ⟨g', cur, e1, e2⟩ := h.flat v hv _ hp
      cases e1
      rfl
  · obtain ⟨g, cur, e1, e2⟩ := h.flat v hv p hp
    exact ⟨g, cur, e1, (hk g cur 9 (.inl rfl) e2).trans e2⟩
/-- x itself becomes a view. -/
theorem Vst.view (h : Vst B G n vs m lo i V x len w) (hi : i < n) (hlen : len ≤ 1000000) : ∃ p c, x = .slice p len c ∧ Vst B G n vs m lo i (V ++ [⟨p, len, c, i⟩]) x len w := by
  obtain ⟨p, c, e, hf⟩ := h.xrow.fls
  rw [List.length_replicate] at e hf
  have hx : ∀ q, p = some q → ∃ g cur, q = ⟨g, 0, none⟩ ∧ x.ownBlock = some g ∧ w.heap[g]? = some (.cells cur 9 (0, 0)) := by
    intro q hq
    rcases h.xrow.form with ⟨e1, _⟩ | ⟨g, cap, cur, e1, e2, _⟩
    · rw [e1] at e; cases e; cases hq
    · have e0 := e1
      rw [e, List.length_replicate] at e1
      cases e1
      cases hq
      exact ⟨g, cur, rfl, by rw [e0]; rfl, e2⟩
  have key : ∀ {P : View → Prop}, (∀ v ∈ V, P v) → P ⟨p, len, c, i⟩ → ∀ v ∈ V ++ [⟨p, len, c, i⟩], P v := by
    intro P h1 h2 v hv
    rcases List.mem_append.1 hv with q | q
    · exact h1 v q
    · rw [List.mem_singleton.1 q]; exact h2
  refine ⟨p, c, e, h.kind, h.high, h.cell, h.row, h.apart, h.above, h.xrow, h.xapart, h.xabove, key h.good ?_, key h.flat ?_, key h.vapart ?_, key h.short ?_, key h.small hi, key h.size hlen⟩
  · exact hf
  · intro q hq
    obtain ⟨g, cur, e1, _, e3⟩ := hx q hq
    exact ⟨g, cur, e1, e3⟩
  · intro g hg j h1 h2
    obtain ⟨g', cur, e1, e2, e3⟩ := hx _ hg
    cases e1
    exact h.xapart j h1 h2 g e2
  · intro g _ _
    exact Nat.le_refl _
/-- x grows by one mark. -/
theorem Vst.grow (h : Vst B G n vs m lo i V x len w) (hB : B ≤ w.heap.size) {x' : Value} (hr : Row w' x' (List.replicate len (mk i) ++ [mk i])) (hg : Grown x len w w') (hx : (∃ g, x.ownBlock = some g ∧ x'.ownBlock = some g) ∨ x'.ownBlock = some w.heap.size) : Vst B G n vs m lo i V x' (len + 1) w' := by
  have hlt : ∀ {g : Nat} {o : Obj}, w.heap[g]? = some o → g < w.heap.size := fun e => (Array.getElem?_eq_some_iff.1 e).1
  obtain ⟨c, hc⟩ := h.kind
  have xG : x.ownBlock ≠ some G := fun e => by
    obtain ⟨cur, q⟩ := h.xrow.kind G e
    rw [hc] at q; cases q
  have eG := hg.block G (hlt hc) xG
  refine ⟨⟨c, eG.trans hc⟩, h.high, fun j hj => (World.cell?_of_block eG).trans (h.cell j hj), fun j h1 h2 => (h.row j h1 h2).keep (fun g hg' => hg.block g ((h.row j h1 h2).lt g hg') (fun e => h.xapart j h1 h2 g e hg')), h.apart, h.above, by rw [List.replicate_succ']; exact hr, fun j h1 h2 g e => ?_, fun g e => ?_, fun v hv => ?_, fun v hv p hp => ?_, h.vapart, fun v hv g hp e => ?_, h.small, h.size⟩
  · rcases hx with ⟨g', q1, q2⟩ | q
    · rw [q2] at e; cases e
      exact h.xapart j h1 h2 _ q1
    · rw [q] at e; cases e
      exact fun q => Nat.lt_irrefl _ ((h.row j h1 h2).lt _ q)
  · rcases hx with ⟨g', q1, q2⟩ | q
    · rw [q2] at e; cases e
      exact h.xabove _ q1
    · rw [q] at e; cases e
      exact hB
  · refine View.keep (h.good v hv) (fun g j hp hj => ?_) (fun g o hp => ?_)
    · obtain ⟨g', cur, e1, e2⟩ := h.flat v hv _ hp
      cases e1
      by_cases q : x.ownBlock = some g
      · have := h.short v hv g hp q
        exact hg.cell g j q (by omega)
      · exact World.cell?_of_block (hg.block g (hlt e2) q)
    · obtain ⟨g', cur, e1, e2⟩ := h.flat v hv _ hp
      cases e1
      rfl
  · obtain ⟨g, cur, e1, e2⟩ := h.flat v hv p hp
    by_cases q : x.ownBlock = some g
    · rcases hx with ⟨g', q1, q2⟩ | q'
      · rw [q] at q1; cases q1
        obtain ⟨cur', e⟩ := hr.kind g q2
        exact ⟨g, cur', e1, e⟩
      · obtain ⟨cur', e⟩ := hg.kind g cur q e2
        exact ⟨g, cur', e1, e⟩
    · exact ⟨g, cur, e1, (hg.block g (hlt e2) q).trans e2⟩
  · rcases hx with ⟨g', q1, q2⟩ | q
    · rw [q2] at e; cases e
      have := h.short v hv _ hp q1
      omega
    · rw [q] at e; cases e
      obtain ⟨g', cur, e1, e2⟩ := h.flat v hv _ hp
      cases e1
      exact absurd (hlt e2) (Nat.lt_irrefl _)
/-- Before the first round. -/
theorem Vst.start (h : Rws B G n vs w (fun j => List.replicate (m j) (mk j))) : Vst B G n vs m 0 0 [] (.slice none 0 0) 0 w :=
  ⟨h.kind, h.high, h.cell, fun j _ h2 => h.row j h2, fun j k _ _ h1 h2 h3 => h.apart j k h1 h2 h3, fun j _ h2 => h.above j h2, World.ownsRow_nil _ _ _ _, fun _ _ _ g e => (by cases e), fun g e => (by cases e), fun _ q => (by cases q), fun _ q => (by cases q), fun _ q => (by cases q), fun _ q => (by cases q), fun _ q => (by cases q), fun _ q => (by cases q)⟩
/-- x is the next list of the row. -/
theorem Vst.take (h : Vst B G n vs m lo i V x len w) (hl : lo < n) : Vst B G n vs m (lo + 1) lo V (vs lo) (m lo) w :=
  ⟨h.kind, h.high, h.cell, fun j h1 h2 => h.row j (by omega) h2, fun j k h1 h2 => h.apart j k (by omega) (by omega), fun j h1 => h.above j (by omega), h.row lo (Nat.le_refl _) hl, fun j h1 h2 g e => h.apart lo j (Nat.le_refl _) (by omega) hl h2 (by omega) g e, h.above lo (Nat.le_refl _) hl, h.good, h.flat, fun v hv g e j h1 h2 => h.vapart v hv g e j (by omega) h2, fun v hv g e e' => absurd e' (h.vapart v hv g e lo (Nat.le_refl _) hl), h.small, h.size⟩
/-- The views, and the row of them (al). -/
structure Alw (B b G n : Nat) (vs : Nat → Value) (m : Nat → Nat) (w0 : World) (lo i : Nat) (V : List View) (x : Value) (len : Nat) (al : Value) (w : World) : Prop where
  build ::
  vst : Vst B G n vs m lo i V x len w
  s1 : Seq b 22 w al (V.map View.val)
  below : Below B w0 w
  room : b ≤ w.heap.size
  lowG : G < b
  lowB : B ≤ b
variable {B b G n : Nat} {vs : Nat → Value} {m : Nat → Nat} {w0 : World} {lo i : Nat} {V : List View} {x al : Value} {len : Nat} {w w' : World}
theorem lt_heap {w : World} {g : Nat} {o : Obj} (e : w.heap[g]? = some o) : g < w.heap.size := (Array.getElem?_eq_some_iff.1 e).1
theorem Alw.push1 {p : Option Addr} {c : Nat} {al' : Value} (h : Alw B b G n vs m w0 lo i V x len al w) (hv : Vst B G n vs m lo i (V ++ [⟨p, len, c, i⟩]) x len w)
    (hs : Seq b 22 w' al' (V.map View.val ++ [.slice p len c])) (hg : (w.alloc (.cells #[.slice p len c] 22)).grownBy w' al.ownBlock) : Alw B b G n vs m w0 lo i (V ++ [⟨p, len, c, i⟩]) x len al' w' := by
  have hsz : (w.alloc (.cells #[.slice p len c] 22)).heap.size = w.heap.size + 1 := by simp
  have hst : ∀ k, k < w.heap.size → al.ownBlock ≠ some k → w'.heap[k]? = w.heap[k]? := fun k hk hne => (hg.block k (by omega) (Ne.symm hne)).trans (Below.heap_alloc w _ k hk)
  have hal : ∀ g cur e, e ≠ 22 → w.heap[g]? = some (.cells cur e (0, 0)) → al.ownBlock ≠ some g := by
    intro g cur e he hc q
    obtain ⟨cur', e'⟩ := h.s1.kind g q
    rw [hc] at e'
    cases e'
    exact he rfl
  refine ⟨hv.keep ?_, by rw [List.map_append]; exact hs, h.below.trans ⟨hg.os, hg.tape, hg.output, by have := hg.size; omega, fun k hk => hst k ?_ ?_⟩, by have := hg.size; have := h.room; omega, h.lowG, h.lowB⟩
  · intro g cur e he hc
    rcases he with rfl | rfl
    · exact hst g (lt_heap hc) (hal g cur 9 (by decide) hc)
    · exact hst g (lt_heap hc) (fun q => by have := h.s1.high g q; have := h.lowG; omega)
  · have := h.lowB; have := h.room; omega
  · intro q
    have := h.s1.high k q; have := h.lowB; omega
/-- What leaves every old block leaves all of it. -/
theorem Alw.keep (h : Alw B b G n vs m w0 lo i V x len al w) (k : Below w.heap.size w w') : Alw B b G n vs m w0 lo i V x len al w' :=
  ⟨h.vst.keep (fun g _ _ _ hc => k.block g (lt_heap hc)), h.s1.below k, h.below.trans (k.mono (Nat.le_trans h.lowB h.room)), Nat.le_trans h.room k.size, h.lowG, h.lowB⟩
theorem Alw.take (h : Alw B b G n vs m w0 lo i V x len al w) (hl : lo < n) : Alw B b G n vs m w0 (lo + 1) lo V (vs lo) (m lo) al w := ⟨h.vst.take hl, h.s1, h.below, h.room, h.lowG, h.lowB⟩
theorem Alw.grow {x' : Value} (h : Alw B b G n vs m w0 lo i V x len al w) (hr : Row w' x' (List.replicate len (mk i) ++ [mk i])) (hg : Grown x len (w.alloc (.cells #[S (mk i)] 9)) w') (hx : (∃ g, x.ownBlock = some g ∧ x'.ownBlock = some g) ∨ x'.ownBlock = some (w.heap.size + 1)) : Alw B b G n vs m w0 lo i V x' (len + 1) al w' := by
  have ha := h.keep (((Below.refl w.heap.size w).alloc (Nat.le_refl _) (.cells #[S (mk i)] 9)))
  have hsz : (w.alloc (.cells #[S (mk i)] 9)).heap.size = w.heap.size + 1 := by simp
  rw [← hsz] at hx
  generalize w.alloc (.cells #[S (mk i)] 9) = w1 at *
  have hne : ∀ g cur e, e ≠ 9 → w1.heap[g]? = some (.cells cur e (0, 0)) → x.ownBlock ≠ some g := by
    intro g cur e he hc q
    obtain ⟨cur', e'⟩ := ha.vst.xrow.kind g q
    rw [hc] at e'
    cases e'
    exact he rfl
  have hB1 : B ≤ w1.heap.size := Nat.le_trans ha.lowB ha.room
  refine ⟨ha.vst.grow hB1 hr hg hx, ha.s1.keep ?_, ha.below.trans ⟨hg.os, hg.tape, hg.output, hg.size, fun k hk => hg.block k (by omega) (fun q => ?_)⟩, Nat.le_trans ha.room hg.size, ha.lowG, ha.lowB⟩
  · intro g q
    obtain ⟨cur, e⟩ := ha.s1.kind g q
    exact hg.block g (lt_heap e) (hne g cur 22 (by decide) e)
  · have := ha.vst.xabove k q
    omega
end Go.Proofs.YtpidmpefodnffaaGreatDoor
namespace Go.Proofs.YtpidmpefodnffaaGreatDoor
open Go.RowKit Go.Lib
set_option maxHeartbeats 4000000
set_option maxRecDepth 8000
def vrza4 (G n cap H cap2 ii : Nat) (pa pb : Option Addr) (na ca nb cb : Nat) (b : Bool) (_c : Unit) (i : Nat) : Value := match i with
  | 0 => (.slice (some ⟨G, 0, none⟩) n cap)
  | 1 => (I (ii : Int))
  | 2 => (.pointer (some ⟨G, ii, none⟩))
  | 3 => (.slice pa na ca)
  | 4 => (.slice (some ⟨H, 0, none⟩) n cap2)
  | 5 => (I (ii : Int))
  | 6 => (.pointer (some ⟨H, ii, none⟩))
  | 7 => (.slice pb nb cb)
  | 8 => (.bool b)
  | 9 => (.bool b)
  | _ => undef
def rza4T : List (Op × Option Tmp × Option (Nat × Bool)) := [
  (.move (.tmp 0), some 21, none),
  (.move (.tmp 5), some 22, none),
  (.indexAddr 26 (.tmp 21) (.tmp 22), some 23, none),
  (.load 22 (.tmp 23), some 24, none),
  (.move (.tmp 1), some 25, none),
  (.move (.tmp 5), some 26, none),
  (.indexAddr 26 (.tmp 25) (.tmp 26), some 27, none),
  (.load 22 (.tmp 27), some 28, none),
  (.call { callee := .value (.func 66), args := #[(.tmp 24), (.tmp 28)], argTypes := #[22, 22] }, some 29, none),
  (.assign (.tmp 29), some 6, none)]
def rza4D : List (Nat × Nat) := [(2, 0), (2, 1), (3, 2), (6, 4), (6, 5), (7, 6), (8, 3), (8, 7), (9, 8)]
set_option maxHeartbeats 4000000 in
theorem rza4 {ops : Array Oper} {id : Nat} {Q : Exit → Act → World → Prop} (G n cap H cap2 ii : Nat) (pa pb : Option Addr) (na ca nb cb : Nat) (b : Bool) (htab : ops.toList.map (fun o => (o.op, o.dst, o.guard)) = rza4T) (hdep : deplB rza4D ops = true) (hac : acB ops = true)
    (a0 : Act) (w : World) (hsz : 30 ≤ a0.tmps.size) (o0 : a0.tmps[0]? = some (.slice (some ⟨G, 0, none⟩) n cap)) (o1 : a0.tmps[1]? = some (.slice (some ⟨H, 0, none⟩) n cap2)) (o5 : a0.tmps[5]? = some (I (ii : Int)))
    (Wd : Unit → (Nat → Bool) → World → Prop) (h0 : ∃ c, Wd c (fun _ => false) w.drew) (hpure : ∀ i, i ∉ ([8] : List Nat) → ∀ c L W, Wd c L W → Wd c (upd L i) W)
    (r2 : ∀ W, (Instr.indexAt 26 (.slice (some ⟨G, 0, none⟩) n cap) (I (ii : Int))).run Tryz.prog W = .ok (.pointer (some ⟨G, ii, none⟩)) W)
    (r3 : ∀ c L W, Wd c L W → L 3 = false → L 2 = true → (Instr.loadAt 22 (.pointer (some ⟨G, ii, none⟩))).run Tryz.prog W = .ok (.slice pa na ca) W)
    (r6 : ∀ W, (Instr.indexAt 26 (.slice (some ⟨H, 0, none⟩) n cap2) (I (ii : Int))).run Tryz.prog W = .ok (.pointer (some ⟨H, ii, none⟩)) W)
    (r7 : ∀ c L W, Wd c L W → L 7 = false → L 6 = true → (Instr.loadAt 22 (.pointer (some ⟨H, ii, none⟩))).run Tryz.prog W = .ok (.slice pb nb cb) W)
    (r8 : ∀ c L W, Wd c L W → L 8 = false → L 3 = true → L 7 = true → Calls Tryz.prog 66 #[(.slice pa na ca), (.slice pb nb cb)] W fun eg w' => ∃ c', (∀ j, L j = true → vrza4 G n cap H cap2 ii pa pb na ca nb cb b c' j = vrza4 G n cap H cap2 ii pa pb na ca nb cb b c j) ∧ eg = .returned (vrza4 G n cap H cap2 ii pa pb na ca nb cb b c' 8) ∧ Wd c' (upd L 8) w')
    (hend : ∀ c L W, (∀ i, i < 10 → L i = true) → Wd c L W → Q .normal ((((((((((a0.put (some 21) (.slice (some ⟨G, 0, none⟩) n cap)).put (some 22) (I (ii : Int))).put (some 23) (.pointer (some ⟨G, ii, none⟩))).put (some 24) (.slice pa na ca)).put (some 25) (.slice (some ⟨H, 0, none⟩) n cap2)).put (some 26) (I (ii : Int))).put (some 27) (.pointer (some ⟨H, ii, none⟩))).put (some 28) (.slice pb nb cb)).put (some 29) (.bool b)).put (some 6) (.bool b)) W) : (Code.region id ops true).wp Tryz.prog Q a0 w := by
  let val : Unit → Nat → Value := vrza4 G n cap H cap2 ii pa pb na ca nb cb b
  have hosz : ops.size = 10 := by
    have := congrArg List.length htab
    simpa [rza4T] using this
  have hds : ∀ i s, (rza4T[i]?).bind (·.2.1) = some s → dstOf ops i = some s := fun i s hi => by rw [tab_dst htab, hi]
  have hdisB : disL rza4T = true := by rfl
  have hdis := disL_of htab hdisB
  have hold : ∀ s, rza4T.all (fun x => !(x.2.1 == some s)) = true → (List.range ops.size).all (fun j => !(dstOf ops j == some s)) = true := fun s h => holdL htab s h
  refine region_detX val Wd (hac_of hac) hdis h0 ?_ ?_
  rotate_left
  · intro c L W hall hW
    have := hend c L W (by rw [← hosz]; exact hall) hW
    have e : frm ops a0 (val c) (fun _ => true) ops.size = ((((((((((a0.put (some 21) (.slice (some ⟨G, 0, none⟩) n cap)).put (some 22) (I (ii : Int))).put (some 23) (.pointer (some ⟨G, ii, none⟩))).put (some 24) (.slice pa na ca)).put (some 25) (.slice (some ⟨H, 0, none⟩) n cap2)).put (some 26) (I (ii : Int))).put (some 27) (.pointer (some ⟨H, ii, none⟩))).put (some 28) (.slice pb nb cb)).put (some 29) (.bool b)).put (some 6) (.bool b)) := by
      rw [hosz]
      simp only [frm, if_true]
      rw [tab_dst htab 0, tab_dst htab 1, tab_dst htab 2, tab_dst htab 3, tab_dst htab 4, tab_dst htab 5, tab_dst htab 6, tab_dst htab 7, tab_dst htab 8, tab_dst htab 9]
      rfl
    rw [e]
    exact this
  intro i o ho c L a w' hL hd ha hW
  have hi : i < 10 := by rw [← hosz]; exact (Array.getElem?_eq_some_iff.1 ho).1
  have G : ∀ j s : Nat, (rza4T[j]?).bind (·.2.1) = some s → s < 30 → (i, j) ∈ rza4D → a.tmps[s]? = some (val c j) := fun j s h1 h2 h3 => frm_at hdis ha j s (hds j s h1) (by omega) (depl_of hdep i j h3 ho hd)
  match i, ho, hL, hi, G with
  | 0, ho, hL, _, G =>
    obtain ⟨hop, hgd⟩ := tab3 htab ho rfl
    have h0 := frm_old ha 0 _ (hold 0 rfl) o0
    exact (dXr ho hgd (hpure 0 (by decide) c L w' hW) (g_mov hop (eval_of h0)))
  | 1, ho, hL, _, G =>
    obtain ⟨hop, hgd⟩ := tab3 htab ho rfl
    have h0 := frm_old ha 5 _ (hold 5 rfl) o5
    exact (dXr ho hgd (hpure 1 (by decide) c L w' hW) (g_mov hop (eval_of h0)))
  | 2, ho, hL, _, G =>
    obtain ⟨hop, hgd⟩ := tab3 htab ho rfl
    have h0 := G 0 21 rfl (by decide) (by decide)
    have h1 := G 1 22 rfl (by decide) (by decide)
    exact (dXr ho hgd (hpure 2 (by decide) c L w' hW) (g_ixa hop (eval_of h0) (eval_of h1) (r2 w')))
  | 3, ho, hL, _, G =>
    obtain ⟨hop, hgd⟩ := tab3 htab ho rfl
    have h0 := G 2 23 rfl (by decide) (by decide)
    exact (dXr ho hgd (hpure 3 (by decide) c L w' hW) (g_load hop (eval_of h0) (r3 c L w' hW hL (depl_of hdep 3 2 (by decide) ho hd))))
  | 4, ho, hL, _, G =>
    obtain ⟨hop, hgd⟩ := tab3 htab ho rfl
    have h0 := frm_old ha 1 _ (hold 1 rfl) o1
    exact (dXr ho hgd (hpure 4 (by decide) c L w' hW) (g_mov hop (eval_of h0)))
  | 5, ho, hL, _, G =>
    obtain ⟨hop, hgd⟩ := tab3 htab ho rfl
    have h0 := frm_old ha 5 _ (hold 5 rfl) o5
    exact (dXr ho hgd (hpure 5 (by decide) c L w' hW) (g_mov hop (eval_of h0)))
  | 6, ho, hL, _, G =>
    obtain ⟨hop, hgd⟩ := tab3 htab ho rfl
    have h0 := G 4 25 rfl (by decide) (by decide)
    have h1 := G 5 26 rfl (by decide) (by decide)
    exact (dXr ho hgd (hpure 6 (by decide) c L w' hW) (g_ixa hop (eval_of h0) (eval_of h1) (r6 w')))
  | 7, ho, hL, _, G =>
    obtain ⟨hop, hgd⟩ := tab3 htab ho rfl
    have h0 := G 6 27 rfl (by decide) (by decide)
    exact (dXr ho hgd (hpure 7 (by decide) c L w' hW) (g_load hop (eval_of h0) (r7 c L w' hW hL (depl_of hdep 7 6 (by decide) ho hd))))
  | 8, ho, hL, _, G =>
    obtain ⟨hop, hgd⟩ := tab3 htab ho rfl
    have h0 := G 3 24 rfl (by decide) (by decide)
    have h1 := G 7 28 rfl (by decide) (by decide)
    refine doesX_call ho (wanted_none hgd) 66 #[(.slice pa na ca), (.slice pb nb cb)] ?_ (r8 c L w' hW hL (depl_of hdep 8 3 (by decide) ho hd) (depl_of hdep 8 7 (by decide) ho hd))
    rw [run_calls Tryz.func66 (by kernel_rfl) rfl _ _ _ _ hop rfl]
    simp only [List.map_toArray, List.map_cons, List.map_nil, eval_of h0, eval_of h1]
    all_goals rfl
  | 9, ho, hL, _, G =>
    obtain ⟨hop, hgd⟩ := tab3 htab ho rfl
    have h0 := G 8 29 rfl (by decide) (by decide)
    exact (dXr ho hgd (hpure 9 (by decide) c L w' hW) (by rw [run_assign _ _ _ hop]; exact congrArg (fun v => Result.ok (Next.value v) w') (eval_of h0)))
  | (i + 10), ho, hL, hi, _ => exact absurd hi (by omega)
def vrza14 (G n cap ii g m c0 kk : Nat) (X : Bs) (u : Int) (c : Nat) (i : Nat) : Value := match i with
  | 0 => (.slice (some ⟨G, 0, none⟩) n cap)
  | 1 => (I (ii : Int))
  | 2 => (.pointer (some ⟨G, ii, none⟩))
  | 3 => (.slice (some ⟨g, 0, none⟩) m c0)
  | 4 => (I (kk : Int))
  | 5 => (I (ii : Int))
  | 6 => (.int .u8 u)
  | 7 => (.slice (some ⟨c, 0, none⟩) 1 1)
  | 8 => (S X)
  | 9 => (S ([109, 97, 114, 107] ++ X))
  | 10 => (.pointer (some ⟨g, kk, none⟩))
  | 11 => undef
  | _ => undef
def rza14T : List (Op × Option Tmp × Option (Nat × Bool)) := [
  (.move (.tmp 0), some 47, none),
  (.move (.tmp 8), some 48, none),
  (.indexAddr 26 (.tmp 47) (.tmp 48), some 49, none),
  (.load 22 (.tmp 49), some 50, none),
  (.move (.tmp 9), some 51, none),
  (.move (.tmp 8), some 52, none),
  (.convert 3 5 (.tmp 52), some 53, none),
  (.buildSlice 105 1 #[(0, (.tmp 53))], some 54, none),
  (.convert 105 9 (.tmp 54), some 55, none),
  (.binOp .add 9 (.const (.string ⟨#[109, 97, 114, 107]⟩)) (.tmp 55) 9, some 56, none),
  (.indexAddr 22 (.tmp 50) (.tmp 51), some 57, none),
  (.store 9 (.tmp 57) (.tmp 56), none, none)]
def rza14D : List (Nat × Nat) := [(2, 0), (2, 1), (3, 2), (6, 5), (7, 6), (8, 7), (9, 8), (10, 3), (10, 4), (11, 7), (11, 8), (11, 9), (11, 10)]
set_option maxHeartbeats 4000000 in
theorem rza14 {ops : Array Oper} {id : Nat} {Q : Exit → Act → World → Prop} (G n cap ii g m c0 kk : Nat) (X : Bs) (u : Int) (htab : ops.toList.map (fun o => (o.op, o.dst, o.guard)) = rza14T) (hdep : deplB rza14D ops = true) (hac : acB ops = true)
    (a0 : Act) (w : World) (hsz : 58 ≤ a0.tmps.size) (o0 : a0.tmps[0]? = some (.slice (some ⟨G, 0, none⟩) n cap)) (o8 : a0.tmps[8]? = some (I (ii : Int))) (o9 : a0.tmps[9]? = some (I (kk : Int)))
    (Wd : Nat → (Nat → Bool) → World → Prop) (h0 : ∃ c, Wd c (fun _ => false) w.drew) (hpure : ∀ i, i ∉ ([7, 11] : List Nat) → ∀ c L W, Wd c L W → Wd c (upd L i) W)
    (r2 : ∀ W, (Instr.indexAt 26 (.slice (some ⟨G, 0, none⟩) n cap) (I (ii : Int))).run Tryz.prog W = .ok (.pointer (some ⟨G, ii, none⟩)) W)
    (r3 : ∀ c L W, Wd c L W → L 3 = false → L 2 = true → (Instr.loadAt 22 (.pointer (some ⟨G, ii, none⟩))).run Tryz.prog W = .ok (.slice (some ⟨g, 0, none⟩) m c0) W)
    (r6 : ∀ W, (convert 3 5 (I (ii : Int))).run Tryz.prog W = .ok (.int .u8 u) W)
    (r7 : ∀ c L W, Wd c L W → L 7 = false → L 6 = true → ∃ c' W', (∀ j, L j = true → vrza14 G n cap ii g m c0 kk X u c' j = vrza14 G n cap ii g m c0 kk X u c j) ∧ (Instr.buildSlice 105 1 #[(0, (.int .u8 u))]).run Tryz.prog W = .ok (vrza14 G n cap ii g m c0 kk X u c' 7) W' ∧ Wd c' (upd L 7) W')
    (r8 : ∀ c L W, Wd c L W → L 8 = false → L 7 = true → (convert 105 9 (.slice (some ⟨c, 0, none⟩) 1 1)).run Tryz.prog W = .ok (S X) W)
    (r9 : ∀ W, (do eqGuard .add 9 (.const (.string ⟨#[109, 97, 114, 107]⟩)) (.tmp 55) (.string ⟨#[109, 97, 114, 107]⟩) (S X); binOp .add 9 (.string ⟨#[109, 97, 114, 107]⟩) (S X)).run Tryz.prog W = .ok (S ([109, 97, 114, 107] ++ X)) W)
    (r10 : ∀ W, (Instr.indexAt 22 (.slice (some ⟨g, 0, none⟩) m c0) (I (kk : Int))).run Tryz.prog W = .ok (.pointer (some ⟨g, kk, none⟩)) W)
    (r11 : ∀ c L W, Wd c L W → L 11 = false → L 7 = true → L 8 = true → L 9 = true → L 10 = true → ∃ W', (Instr.storeAt 9 (.pointer (some ⟨g, kk, none⟩)) (S ([109, 97, 114, 107] ++ X))).run Tryz.prog W = .ok () W' ∧ Wd c (upd L 11) W')
    (hend : ∀ c L W, (∀ i, i < 12 → L i = true) → Wd c L W → Q .normal (((((((((((a0.put (some 47) (.slice (some ⟨G, 0, none⟩) n cap)).put (some 48) (I (ii : Int))).put (some 49) (.pointer (some ⟨G, ii, none⟩))).put (some 50) (.slice (some ⟨g, 0, none⟩) m c0)).put (some 51) (I (kk : Int))).put (some 52) (I (ii : Int))).put (some 53) (.int .u8 u)).put (some 54) (.slice (some ⟨c, 0, none⟩) 1 1)).put (some 55) (S X)).put (some 56) (S ([109, 97, 114, 107] ++ X))).put (some 57) (.pointer (some ⟨g, kk, none⟩))) W) : (Code.region id ops true).wp Tryz.prog Q a0 w := by
  let val : Nat → Nat → Value := vrza14 G n cap ii g m c0 kk X u
  have hosz : ops.size = 12 := by
    have := congrArg List.length htab
    simpa [rza14T] using this
  have hds : ∀ i s, (rza14T[i]?).bind (·.2.1) = some s → dstOf ops i = some s := fun i s hi => by rw [tab_dst htab, hi]
  have hdisB : disL rza14T = true := by rfl
  have hdis := disL_of htab hdisB
  have hold : ∀ s, rza14T.all (fun x => !(x.2.1 == some s)) = true → (List.range ops.size).all (fun j => !(dstOf ops j == some s)) = true := fun s h => holdL htab s h
  refine region_detX val Wd (hac_of hac) hdis h0 ?_ ?_
  rotate_left
  · intro c L W hall hW
    have := hend c L W (by rw [← hosz]; exact hall) hW
    have e : frm ops a0 (val c) (fun _ => true) ops.size = (((((((((((a0.put (some 47) (.slice (some ⟨G, 0, none⟩) n cap)).put (some 48) (I (ii : Int))).put (some 49) (.pointer (some ⟨G, ii, none⟩))).put (some 50) (.slice (some ⟨g, 0, none⟩) m c0)).put (some 51) (I (kk : Int))).put (some 52) (I (ii : Int))).put (some 53) (.int .u8 u)).put (some 54) (.slice (some ⟨c, 0, none⟩) 1 1)).put (some 55) (S X)).put (some 56) (S ([109, 97, 114, 107] ++ X))).put (some 57) (.pointer (some ⟨g, kk, none⟩))) := by
      rw [hosz]
      simp only [frm, if_true]
      rw [tab_dst htab 0, tab_dst htab 1, tab_dst htab 2, tab_dst htab 3, tab_dst htab 4, tab_dst htab 5, tab_dst htab 6, tab_dst htab 7, tab_dst htab 8, tab_dst htab 9, tab_dst htab 10, (show dstOf ops 11 = none from (tab_dst htab 11).trans rfl), put_none]
      rfl
    rw [e]
    exact this
  intro i o ho c L a w' hL hd ha hW
  have hi : i < 12 := by rw [← hosz]; exact (Array.getElem?_eq_some_iff.1 ho).1
  have G : ∀ j s : Nat, (rza14T[j]?).bind (·.2.1) = some s → s < 58 → (i, j) ∈ rza14D → a.tmps[s]? = some (val c j) := fun j s h1 h2 h3 => frm_at hdis ha j s (hds j s h1) (by omega) (depl_of hdep i j h3 ho hd)
  match i, ho, hL, hi, G with
  | 0, ho, hL, _, G =>
    obtain ⟨hop, hgd⟩ := tab3 htab ho rfl
    have h0 := frm_old ha 0 _ (hold 0 rfl) o0
    exact (dXr ho hgd (hpure 0 (by decide) c L w' hW) (g_mov hop (eval_of h0)))
  | 1, ho, hL, _, G =>
    obtain ⟨hop, hgd⟩ := tab3 htab ho rfl
    have h0 := frm_old ha 8 _ (hold 8 rfl) o8
    exact (dXr ho hgd (hpure 1 (by decide) c L w' hW) (g_mov hop (eval_of h0)))
  | 2, ho, hL, _, G =>
    obtain ⟨hop, hgd⟩ := tab3 htab ho rfl
    have h0 := G 0 47 rfl (by decide) (by decide)
    have h1 := G 1 48 rfl (by decide) (by decide)
    exact (dXr ho hgd (hpure 2 (by decide) c L w' hW) (g_ixa hop (eval_of h0) (eval_of h1) (r2 w')))
  | 3, ho, hL, _, G =>
    obtain ⟨hop, hgd⟩ := tab3 htab ho rfl
    have h0 := G 2 49 rfl (by decide) (by decide)
    exact (dXr ho hgd (hpure 3 (by decide) c L w' hW) (g_load hop (eval_of h0) (r3 c L w' hW hL (depl_of hdep 3 2 (by decide) ho hd))))
  | 4, ho, hL, _, G =>
    obtain ⟨hop, hgd⟩ := tab3 htab ho rfl
    have h0 := frm_old ha 9 _ (hold 9 rfl) o9
    exact (dXr ho hgd (hpure 4 (by decide) c L w' hW) (g_mov hop (eval_of h0)))
  | 5, ho, hL, _, G =>
    obtain ⟨hop, hgd⟩ := tab3 htab ho rfl
    have h0 := frm_old ha 8 _ (hold 8 rfl) o8
    exact (dXr ho hgd (hpure 5 (by decide) c L w' hW) (g_mov hop (eval_of h0)))
  | 6, ho, hL, _, G =>
    obtain ⟨hop, hgd⟩ := tab3 htab ho rfl
    have h0 := G 5 52 rfl (by decide) (by decide)
    exact (dXr ho hgd (hpure 6 (by decide) c L w' hW) (g_conv hop (eval_of h0) (r6 w')))
  | 7, ho, hL, _, G =>
    obtain ⟨hop, hgd⟩ := tab3 htab ho rfl
    have h0 := G 6 53 rfl (by decide) (by decide)
    obtain ⟨c', W', q0, q1, q2⟩ := r7 c L w' hW hL (depl_of hdep 7 6 (by decide) ho hd)
    exact doesX_runw ho (wanted_none hgd) c' q0 q2 (g_bs hop (by simp only [List.map_toArray, List.map_cons, List.map_nil, eval_of h0]; first | done | rfl) q1)
  | 8, ho, hL, _, G =>
    obtain ⟨hop, hgd⟩ := tab3 htab ho rfl
    have h0 := G 7 54 rfl (by decide) (by decide)
    exact (dXr ho hgd (hpure 8 (by decide) c L w' hW) (g_conv hop (eval_of h0) (r8 c L w' hW hL (depl_of hdep 8 7 (by decide) ho hd))))
  | 9, ho, hL, _, G =>
    obtain ⟨hop, hgd⟩ := tab3 htab ho rfl
    have h1 := G 8 55 rfl (by decide) (by decide)
    exact (dXr ho hgd (hpure 9 (by decide) c L w' hW) (g_bin hop rfl (eval_of h1) (r9 w')))
  | 10, ho, hL, _, G =>
    obtain ⟨hop, hgd⟩ := tab3 htab ho rfl
    have h0 := G 3 50 rfl (by decide) (by decide)
    have h1 := G 4 51 rfl (by decide) (by decide)
    exact (dXr ho hgd (hpure 10 (by decide) c L w' hW) (g_ixa hop (eval_of h0) (eval_of h1) (r10 w')))
  | 11, ho, hL, _, G =>
    obtain ⟨hop, hgd⟩ := tab3 htab ho rfl
    have h0 := G 10 57 rfl (by decide) (by decide)
    have h1 := G 9 56 rfl (by decide) (by decide)
    obtain ⟨W', q1, q2⟩ := r11 c L w' hW hL (depl_of hdep 11 7 (by decide) ho hd) (depl_of hdep 11 8 (by decide) ho hd) (depl_of hdep 11 9 (by decide) ho hd) (depl_of hdep 11 10 (by decide) ho hd)
    exact doesX_of (doesL_skp ho (wanted_none hgd) rfl q2 (g_store hop (eval_of h0) (eval_of h1) q1))
  | (i + 12), ho, hL, hi, _ => exact absurd hi (by omega)
def vrza30 (G n cap jj g m c0 kk : Nat) (X Y : Bs) (u : Int) (qq : Int) (b : Bool) (c : Nat) (i : Nat) : Value := match i with
  | 0 => (.slice (some ⟨G, 0, none⟩) n cap)
  | 1 => (I (jj : Int))
  | 2 => (.pointer (some ⟨G, jj, none⟩))
  | 3 => (.slice (some ⟨g, 0, none⟩) m c0)
  | 4 => (I (kk : Int))
  | 5 => (.pointer (some ⟨g, kk, none⟩))
  | 6 => (S Y)
  | 7 => (I (jj : Int))
  | 8 => (I qq)
  | 9 => (.int .u8 u)
  | 10 => (.slice (some ⟨c, 0, none⟩) 1 1)
  | 11 => (S X)
  | 12 => (S ([109, 97, 114, 107] ++ X))
  | 13 => (.bool b)
  | _ => undef
def rza30T : List (Op × Option Tmp × Option (Nat × Bool)) := [
  (.move (.tmp 7), some 99, none),
  (.move (.tmp 13), some 100, none),
  (.indexAddr 26 (.tmp 99) (.tmp 100), some 101, none),
  (.load 22 (.tmp 101), some 102, none),
  (.move (.tmp 14), some 103, none),
  (.indexAddr 22 (.tmp 102) (.tmp 103), some 104, none),
  (.load 9 (.tmp 104), some 105, none),
  (.move (.tmp 13), some 106, none),
  (.binOp .quo 3 (.tmp 106) (.const (I 12)) 3, some 107, none),
  (.convert 3 5 (.tmp 107), some 108, none),
  (.buildSlice 105 1 #[(0, (.tmp 108))], some 109, none),
  (.convert 105 9 (.tmp 109), some 110, none),
  (.binOp .add 9 (.const (.string ⟨#[109, 97, 114, 107]⟩)) (.tmp 110) 9, some 111, none),
  (.binOp .neq 9 (.tmp 105) (.tmp 111) 9, some 112, none)]
def rza30D : List (Nat × Nat) := [(2, 0), (2, 1), (3, 2), (5, 3), (5, 4), (6, 5), (8, 7), (9, 8), (10, 9), (11, 10), (12, 11), (13, 6), (13, 12)]
set_option maxHeartbeats 4000000 in
theorem rza30 {ops : Array Oper} {id : Nat} {Q : Exit → Act → World → Prop} (G n cap jj g m c0 kk : Nat) (X Y : Bs) (u : Int) (qq : Int) (b : Bool) (htab : ops.toList.map (fun o => (o.op, o.dst, o.guard)) = rza30T) (hdep : deplB rza30D ops = true) (hac : acB ops = true)
    (a0 : Act) (w : World) (hsz : 113 ≤ a0.tmps.size) (o7 : a0.tmps[7]? = some (.slice (some ⟨G, 0, none⟩) n cap)) (o13 : a0.tmps[13]? = some (I (jj : Int))) (o14 : a0.tmps[14]? = some (I (kk : Int)))
    (Wd : Nat → (Nat → Bool) → World → Prop) (h0 : ∃ c, Wd c (fun _ => false) w.drew) (hpure : ∀ i, i ∉ ([10] : List Nat) → ∀ c L W, Wd c L W → Wd c (upd L i) W)
    (r2 : ∀ W, (Instr.indexAt 26 (.slice (some ⟨G, 0, none⟩) n cap) (I (jj : Int))).run Tryz.prog W = .ok (.pointer (some ⟨G, jj, none⟩)) W)
    (r3 : ∀ c L W, Wd c L W → L 3 = false → L 2 = true → (Instr.loadAt 22 (.pointer (some ⟨G, jj, none⟩))).run Tryz.prog W = .ok (.slice (some ⟨g, 0, none⟩) m c0) W)
    (r5 : ∀ W, (Instr.indexAt 22 (.slice (some ⟨g, 0, none⟩) m c0) (I (kk : Int))).run Tryz.prog W = .ok (.pointer (some ⟨g, kk, none⟩)) W)
    (r6 : ∀ c L W, Wd c L W → L 6 = false → L 5 = true → (Instr.loadAt 9 (.pointer (some ⟨g, kk, none⟩))).run Tryz.prog W = .ok (S Y) W)
    (r8 : ∀ W, (do eqGuard .quo 3 (.tmp 106) (.const (I 12)) (I (jj : Int)) (I 12); binOp .quo 3 (I (jj : Int)) (I 12)).run Tryz.prog W = .ok (I qq) W)
    (r9 : ∀ W, (convert 3 5 (I qq)).run Tryz.prog W = .ok (.int .u8 u) W)
    (r10 : ∀ c L W, Wd c L W → L 10 = false → L 9 = true → ∃ c' W', (∀ j, L j = true → vrza30 G n cap jj g m c0 kk X Y u qq b c' j = vrza30 G n cap jj g m c0 kk X Y u qq b c j) ∧ (Instr.buildSlice 105 1 #[(0, (.int .u8 u))]).run Tryz.prog W = .ok (vrza30 G n cap jj g m c0 kk X Y u qq b c' 10) W' ∧ Wd c' (upd L 10) W')
    (r11 : ∀ c L W, Wd c L W → L 11 = false → L 10 = true → (convert 105 9 (.slice (some ⟨c, 0, none⟩) 1 1)).run Tryz.prog W = .ok (S X) W)
    (r12 : ∀ W, (do eqGuard .add 9 (.const (.string ⟨#[109, 97, 114, 107]⟩)) (.tmp 110) (.string ⟨#[109, 97, 114, 107]⟩) (S X); binOp .add 9 (.string ⟨#[109, 97, 114, 107]⟩) (S X)).run Tryz.prog W = .ok (S ([109, 97, 114, 107] ++ X)) W)
    (r13 : ∀ W, (do eqGuard .neq 9 (.tmp 105) (.tmp 111) (S Y) (S ([109, 97, 114, 107] ++ X)); binOp .neq 9 (S Y) (S ([109, 97, 114, 107] ++ X))).run Tryz.prog W = .ok (.bool b) W)
    (hend : ∀ c L W, (∀ i, i < 14 → L i = true) → Wd c L W → Q .normal ((((((((((((((a0.put (some 99) (.slice (some ⟨G, 0, none⟩) n cap)).put (some 100) (I (jj : Int))).put (some 101) (.pointer (some ⟨G, jj, none⟩))).put (some 102) (.slice (some ⟨g, 0, none⟩) m c0)).put (some 103) (I (kk : Int))).put (some 104) (.pointer (some ⟨g, kk, none⟩))).put (some 105) (S Y)).put (some 106) (I (jj : Int))).put (some 107) (I qq)).put (some 108) (.int .u8 u)).put (some 109) (.slice (some ⟨c, 0, none⟩) 1 1)).put (some 110) (S X)).put (some 111) (S ([109, 97, 114, 107] ++ X))).put (some 112) (.bool b)) W) : (Code.region id ops true).wp Tryz.prog Q a0 w := by
  let val : Nat → Nat → Value := vrza30 G n cap jj g m c0 kk X Y u qq b
  have hosz : ops.size = 14 := by
    have := congrArg List.length htab
    simpa [rza30T] using this
  have hds : ∀ i s, (rza30T[i]?).bind (·.2.1) = some s → dstOf ops i = some s := fun i s hi => by rw [tab_dst htab, hi]
  have hdisB : disL rza30T = true := by rfl
  have hdis := disL_of htab hdisB
  have hold : ∀ s, rza30T.all (fun x => !(x.2.1 == some s)) = true → (List.range ops.size).all (fun j => !(dstOf ops j == some s)) = true := fun s h => holdL htab s h
  refine region_detX val Wd (hac_of hac) hdis h0 ?_ ?_
  rotate_left
  · intro c L W hall hW
    have := hend c L W (by rw [← hosz]; exact hall) hW
    have e : frm ops a0 (val c) (fun _ => true) ops.size = ((((((((((((((a0.put (some 99) (.slice (some ⟨G, 0, none⟩) n cap)).put (some 100) (I (jj : Int))).put (some 101) (.pointer (some ⟨G, jj, none⟩))).put (some 102) (.slice (some ⟨g, 0, none⟩) m c0)).put (some 103) (I (kk : Int))).put (some 104) (.pointer (some ⟨g, kk, none⟩))).put (some 105) (S Y)).put (some 106) (I (jj : Int))).put (some 107) (I qq)).put (some 108) (.int .u8 u)).put (some 109) (.slice (some ⟨c, 0, none⟩) 1 1)).put (some 110) (S X)).put (some 111) (S ([109, 97, 114, 107] ++ X))).put (some 112) (.bool b)) := by
      rw [hosz]
      simp only [frm, if_true]
      rw [tab_dst htab 0, tab_dst htab 1, tab_dst htab 2, tab_dst htab 3, tab_dst htab 4, tab_dst htab 5, tab_dst htab 6, tab_dst htab 7, tab_dst htab 8, tab_dst htab 9, tab_dst htab 10, tab_dst htab 11, tab_dst htab 12, tab_dst htab 13]
      rfl
    rw [e]
    exact this
  intro i o ho c L a w' hL hd ha hW
  have hi : i < 14 := by rw [← hosz]; exact (Array.getElem?_eq_some_iff.1 ho).1
  have G : ∀ j s : Nat, (rza30T[j]?).bind (·.2.1) = some s → s < 113 → (i, j) ∈ rza30D → a.tmps[s]? = some (val c j) := fun j s h1 h2 h3 => frm_at hdis ha j s (hds j s h1) (by omega) (depl_of hdep i j h3 ho hd)
  match i, ho, hL, hi, G with
  | 0, ho, hL, _, G =>
    obtain ⟨hop, hgd⟩ := tab3 htab ho rfl
    have h0 := frm_old ha 7 _ (hold 7 rfl) o7
    exact (dXr ho hgd (hpure 0 (by decide) c L w' hW) (g_mov hop (eval_of h0)))
  | 1, ho, hL, _, G =>
    obtain ⟨hop, hgd⟩ := tab3 htab ho rfl
    have h0 := frm_old ha 13 _ (hold 13 rfl) o13
    exact (dXr ho hgd (hpure 1 (by decide) c L w' hW) (g_mov hop (eval_of h0)))
  | 2, ho, hL, _, G =>
    obtain ⟨hop, hgd⟩ := tab3 htab ho rfl
    have h0 := G 0 99 rfl (by decide) (by decide)
    have h1 := G 1 100 rfl (by decide) (by decide)
    exact (dXr ho hgd (hpure 2 (by decide) c L w' hW) (g_ixa hop (eval_of h0) (eval_of h1) (r2 w')))
  | 3, ho, hL, _, G =>
    obtain ⟨hop, hgd⟩ := tab3 htab ho rfl
    have h0 := G 2 101 rfl (by decide) (by decide)
    exact (dXr ho hgd (hpure 3 (by decide) c L w' hW) (g_load hop (eval_of h0) (r3 c L w' hW hL (depl_of hdep 3 2 (by decide) ho hd))))
  | 4, ho, hL, _, G =>
    obtain ⟨hop, hgd⟩ := tab3 htab ho rfl
    have h0 := frm_old ha 14 _ (hold 14 rfl) o14
    exact (dXr ho hgd (hpure 4 (by decide) c L w' hW) (g_mov hop (eval_of h0)))
  | 5, ho, hL, _, G =>
    obtain ⟨hop, hgd⟩ := tab3 htab ho rfl
    have h0 := G 3 102 rfl (by decide) (by decide)
    have h1 := G 4 103 rfl (by decide) (by decide)
    exact (dXr ho hgd (hpure 5 (by decide) c L w' hW) (g_ixa hop (eval_of h0) (eval_of h1) (r5 w')))
  | 6, ho, hL, _, G =>
    obtain ⟨hop, hgd⟩ := tab3 htab ho rfl
    have h0 := G 5 104 rfl (by decide) (by decide)
    exact (dXr ho hgd (hpure 6 (by decide) c L w' hW) (g_load hop (eval_of h0) (r6 c L w' hW hL (depl_of hdep 6 5 (by decide) ho hd))))
  | 7, ho, hL, _, G =>
    obtain ⟨hop, hgd⟩ := tab3 htab ho rfl
    have h0 := frm_old ha 13 _ (hold 13 rfl) o13
    exact (dXr ho hgd (hpure 7 (by decide) c L w' hW) (g_mov hop (eval_of h0)))
  | 8, ho, hL, _, G =>
    obtain ⟨hop, hgd⟩ := tab3 htab ho rfl
    have h0 := G 7 106 rfl (by decide) (by decide)
    exact (dXr ho hgd (hpure 8 (by decide) c L w' hW) (g_bin hop (eval_of h0) rfl (r8 w')))
  | 9, ho, hL, _, G =>
    obtain ⟨hop, hgd⟩ := tab3 htab ho rfl
    have h0 := G 8 107 rfl (by decide) (by decide)
    exact (dXr ho hgd (hpure 9 (by decide) c L w' hW) (g_conv hop (eval_of h0) (r9 w')))
  | 10, ho, hL, _, G =>
    obtain ⟨hop, hgd⟩ := tab3 htab ho rfl
    have h0 := G 9 108 rfl (by decide) (by decide)
    obtain ⟨c', W', q0, q1, q2⟩ := r10 c L w' hW hL (depl_of hdep 10 9 (by decide) ho hd)
    exact doesX_runw ho (wanted_none hgd) c' q0 q2 (g_bs hop (by simp only [List.map_toArray, List.map_cons, List.map_nil, eval_of h0]; first | done | rfl) q1)
  | 11, ho, hL, _, G =>
    obtain ⟨hop, hgd⟩ := tab3 htab ho rfl
    have h0 := G 10 109 rfl (by decide) (by decide)
    exact (dXr ho hgd (hpure 11 (by decide) c L w' hW) (g_conv hop (eval_of h0) (r11 c L w' hW hL (depl_of hdep 11 10 (by decide) ho hd))))
  | 12, ho, hL, _, G =>
    obtain ⟨hop, hgd⟩ := tab3 htab ho rfl
    have h1 := G 11 110 rfl (by decide) (by decide)
    exact (dXr ho hgd (hpure 12 (by decide) c L w' hW) (g_bin hop rfl (eval_of h1) (r12 w')))
  | 13, ho, hL, _, G =>
    obtain ⟨hop, hgd⟩ := tab3 htab ho rfl
    have h0 := G 6 105 rfl (by decide) (by decide)
    have h1 := G 12 111 rfl (by decide) (by decide)
    exact (dXr ho hgd (hpure 13 (by decide) c L w' hW) (g_bin hop (eval_of h0) (eval_of h1) (r13 w')))
  | (i + 14), ho, hL, hi, _ => exact absurd hi (by omega)
end Go.Proofs.YtpidmpefodnffaaGreatDoor
namespace Go.Proofs.YtpidmpefodnffaaGreatDoor
open Go.RowKit Go.Lib
set_option maxHeartbeats 4000000
set_option maxRecDepth 8000
theorem s_ix26 {w : World} (g n cap k : Nat) (hk : k < n) : (Instr.indexAt 26 (.slice (some ⟨g, 0, none⟩) n cap) (I (k : Int))).run Tryz.prog w = .ok (.pointer (some ⟨g, k, none⟩)) w := by
  have h1 : (k : Int) < (n : Int) := by omega
  have u := Tryz.underlying26
  have z := Tryz.sizeOf22
  simp [go_sem, u, z, h1]
theorem s_ix22 {w : World} (g n cap k : Nat) (hk : k < n) : (Instr.indexAt 22 (.slice (some ⟨g, 0, none⟩) n cap) (I (k : Int))).run Tryz.prog w = .ok (.pointer (some ⟨g, k, none⟩)) w := by
  have h1 : (k : Int) < (n : Int) := by omega
  have u := Tryz.underlying22
  have z := Tryz.sizeOf9
  simp [go_sem, u, z, h1]
theorem s_cv (i : Nat) (hi : i < 256) {w : World} : (convert 3 5 (I (i : Int))).run Tryz.prog w = .ok (.int .u8 (i : Int)) w := by
  have e : IntKind.u8.wrap (i : Int) = (i : Int) := by rw [IntKind.wrap_u8]; omega
  simp [go_sem, Tryz.underlying3, Tryz.underlying5, e]
theorem s_bs105 (n : Int) (W : World) : (Instr.buildSlice 105 1 #[(0, .int .u8 n)]).run Tryz.prog W = .ok (.slice (some ⟨W.heap.size, 0, none⟩) 1 1) (W.alloc (.cells #[.int .u8 n] 5)) := by
  simp [go_sem, Tryz.zeroValue5, Tryz.sizeOf5]
theorem s_tx {w : World} {g : Nat} (i : Nat) (hi : i < 256) (h : w.heap[g]? = some (.cells #[.int .u8 (i : Int)] 5 (0, 0))) : (convert 105 9 (.slice (some ⟨g, 0, none⟩) 1 1)).run Tryz.prog w = .ok (S [UInt8.ofNat i]) w := by
  refine run_text w g 0 1 1 [UInt8.ofNat i] rfl fun j hj => ?_
  obtain rfl : j = 0 := by omega
  rw [cell_of_row _ _ _ _ 5 (0, 0) h]
  simp
  omega
theorem s_mk (i : Nat) (x : Operand) {w : World} : (do eqGuard .add 9 (.const (.string ⟨#[109, 97, 114, 107]⟩)) x (.string ⟨#[109, 97, 114, 107]⟩) (S [UInt8.ofNat i]); binOp .add 9 (.string ⟨#[109, 97, 114, 107]⟩) (S [UInt8.ofNat i]) : Sem Value).run Tryz.prog w = .ok (S ([109, 97, 114, 107] ++ [UInt8.ofNat i])) w :=
  s_cat (.const (.string ⟨#[109, 97, 114, 107]⟩)) x [109, 97, 114, 107] [UInt8.ofNat i] (by simp)
theorem s_quo (j : Nat) (hj : j ≤ 1000000) (x y : Operand) {w : World} : (do eqGuard .quo 3 x y (I (j : Int)) (I 12); binOp .quo 3 (I (j : Int)) (I 12) : Sem Value).run Tryz.prog w = .ok (I ((j / 12 : Nat) : Int)) w := by
  have e : Int.tdiv (j : Int) 12 = ((j / 12 : Nat) : Int) := by
    rw [Int.tdiv_eq_ediv_of_nonneg (by omega)]
    omega
  have q : IntKind.i64.wrap ((j : Int) / 12) = (j : Int) / 12 := by rw [IntKind.wrap_i64]; omega
  simp [go_sem, eqGuard, e, q]
theorem s_neq (a b : Bs) (x y : Operand) {w : World} : (do eqGuard .neq 9 x y (S a) (S b); binOp .neq 9 (S a) (S b) : Sem Value).run Tryz.prog w = .ok (.bool (decide (a ≠ b))) w :=
  s_bin (by simp [eqGuard]) (run_neq a b w)
/-- What holds of the world while a mark is laid. -/
def WdA (wr : World) (g k i : Nat) (c : Nat) (L : Nat → Bool) (W : World) : Prop :=
  (L 11 = false ∧ Below wr.heap.size wr W ∧ (L 7 = true → W.heap[c]? = some (.cells #[.int .u8 (i : Int)] 5 (0, 0)))) ∨ (L 11 = true ∧ L 7 = true ∧ L 8 = true ∧ ∃ W0, Below wr.heap.size wr W0 ∧ W = W0.setCell ⟨g, k, none⟩ (S (mk i)))
theorem upd_of {L : Nat → Bool} {i j : Nat} (h : L j = true) : upd L i j = true := by by_cases e : j = i <;> simp [upd, e, h]
theorem upd_eq {L : Nat → Bool} {i : Nat} : upd L i i = true := by simp [upd]
theorem WdA.pure {wr : World} {g k i c : Nat} {L : Nat → Bool} {W : World} (h : WdA wr g k i c L W) (x : Nat) (h7 : x ≠ 7) (h11 : x ≠ 11) : WdA wr g k i c (upd L x) W := by
  rcases h with ⟨h1, h2, h3⟩ | ⟨h1, h2, h3, h4⟩
  · exact .inl ⟨(upd_ne (Ne.symm h11)).trans h1, h2, fun q => h3 ((upd_ne (Ne.symm h7)).symm.trans q)⟩
  · exact .inr ⟨upd_of h1, upd_of h2, upd_of h3, h4⟩
theorem WdA.block {wr : World} {g k i c : Nat} {L : Nat → Bool} {W : World} (h : WdA wr g k i c L W) (G : Nat) (hG : G < wr.heap.size) (hne : G ≠ g) : W.heap[G]? = wr.heap[G]? := by
  rcases h with ⟨_, h2, _⟩ | ⟨_, _, _, W0, h3, rfl⟩
  · exact h2.block G hG
  · rw [setCells_other hne]
    exact h3.block G hG
theorem v14_ne (G n cap ii g m c0 kk : Nat) (X : Bs) (u : Int) (c c' j : Nat) (h : j ≠ 7) : vrza14 G n cap ii g m c0 kk X u c' j = vrza14 G n cap ii g m c0 kk X u c j := by
  unfold vrza14
  split <;> first | rfl | exact absurd rfl h
theorem v30_ne (G n cap jj g m c0 kk : Nat) (X Y : Bs) (u qq : Int) (b : Bool) (c c' j : Nat) (h : j ≠ 10) : vrza30 G n cap jj g m c0 kk X Y u qq b c' j = vrza30 G n cap jj g m c0 kk X Y u qq b c j := by
  unfold vrza30
  split <;> first | rfl | exact absurd rfl h
/-- What holds of the world while a text is held against a mark. -/
def WdB (wr : World) (i : Nat) (c : Nat) (L : Nat → Bool) (W : World) : Prop := Below wr.heap.size wr W ∧ (L 10 = true → W.heap[c]? = some (.cells #[.int .u8 (i : Int)] 5 (0, 0)))
/-- What was wanted. -/
def Wnt (H n : Nat) (w : World) (Ls : Nat → List Bs) : Prop := ∀ i, i < n → ∃ p c, w.cell? ⟨H, i, none⟩ = some (.slice p (Ls i).length c) ∧ Sts w p (Ls i).length (Ls i)
theorem Wnt.below {H n : Nat} {w w' : World} {Ls : Nat → List Bs} (h : Wnt H n w Ls) (hb : Below w.heap.size w w') : Wnt H n w' Ls := fun i hi => by
  obtain ⟨p, c, h1, h2⟩ := h i hi
  exact ⟨p, c, (hb.cell (blk_lt h1)).trans h1, h2.below hb⟩
/-! ### apart -/
theorem mk_eq (i : Nat) : (ByteArray.mk #[109, 97, 114, 107] ++ ByteArray.mk #[UInt8.ofNat i]) = ⟨(mk i).toArray⟩ := by
  apply ByteArray.ext
  simp [ByteArray.data_append, mk]
theorem apart_any (B G H n cap cap2 : Nat) (vs : Nat → Value) (Ls : Nat → List Bs) (w : World) (h : Rws B G n vs w Ls) (hw : Wnt H n w Ls) (hn : n ≤ 12) (hl : ∀ i, i < n → (Ls i).length ≤ 100000) :
    Calls Tryz.prog 18 #[.slice (some ⟨G, 0, none⟩) n cap, .slice (some ⟨H, 0, none⟩) n cap2] w fun e w' => e = .returned (.bool true) ∧ Below B w w' := by
  have HP := hide h
  have HQ := hide hw
  have HL := hide hl
  have HBw := hide (show B ≤ w.heap.size from Nat.le_of_lt (Nat.lt_of_le_of_lt h.high h.ltG))
  clear h hl hw
  go_enter Tryz.func18, Tryz.ntmps18
  go_wp2
  go_loopw [5] (fun i wr => ∃ k : Nat, k ≤ n ∧ i = .int .i64 k ∧ Below w.heap.size w wr) (fun i _ => n - (Go.RowKit.intOf i).toNat)
  case atStart => exact ⟨0, by omega, rfl, Below.refl _ _⟩
  case round =>
    obtain ⟨i, hi, rfl, hbr⟩ := hrel
    by_cases hlt : i < n
    · have hlt' : (i : Int) < (n : Int) := by omega
      have hp := (unhide HP).below hbr
      obtain ⟨pb, cb, hc2, hs2⟩ := (unhide HQ).below hbr i hlt
      have hc1 := hp.cell i hlt
      obtain ⟨pa, ca, e1, hs1⟩ := (hp.row i hlt).fls
      rw [e1] at hc1
      have hlen := unhide HL i hlt
      have hsame := same_any pa pb (Ls i).length (Ls i).length ca cb (Ls i) (Ls i)
      rw [decide_eq_true rfl] at hsame
      have HS := hide (fun W (hb : Below wr.heap.size wr W) => hsame W (hs1.below hb) (hs2.below hb) (by omega) (by omega))
      have B1 := hide (blk_lt hc1)
      have B2 := hide (blk_lt hc2)
      have HB := hide hbr
      have C1 := hide hc1
      have C2 := hide hc2
      clear hsame hs1 hs2 hp hc1 hc2 hbr hlen e1
      generalize (Ls i).length = m at *
      go_wp2_with fail
      refine rza4 G n cap H cap2 i pa pb m ca m cb true rfl (by rfl) (by rfl) _ wr (by simp) rfl rfl rfl (fun _ _ W => Below wr.heap.size wr W) ⟨(), (Below.refl _ _).drew⟩ (fun _ _ _ _ _ hW => hW) (fun W => s_ix26 G n cap i hlt)
        (fun c L W hW _ _ => s_ld (T := 22) (fun _ => by kernel_rfl) ((hW.cell (unhide B1)).trans (unhide C1))) (fun W => s_ix26 H n cap2 i hlt)
        (fun c L W hW _ _ => s_ld (T := 22) (fun _ => by kernel_rfl) ((hW.cell (unhide B2)).trans (unhide C2)))
        (fun c L W hW _ _ _ => (unhide HS W hW).mono fun e w' q => ⟨c, fun _ _ => rfl, q.1, hW.trans (q.2.mono hW.size)⟩) ?_
      intro c L W hall hW
      simp only [Act.put, List.setIfInBounds_toArray, List.set_cons_succ, List.set_cons_zero]
      have HW := hide ((unhide HB).trans (hW.mono (unhide HB).size))
      clear hW hall HS C1 C2 B1 B2 HB
      go_wp2
      refine ⟨⟨i + 1, by omega, by go_num, unhide HW⟩, ?_⟩
      simp [Go.RowKit.intOf]; omega
    · have hd : decide (i < n) = false := by simp; omega
      have HP2 := hide ((unhide HP).below hbr)
      have HBr := hide (hbr.mono (unhide HBw))
      clear hbr HP HQ hi hlt HBw
      go_wp2
      go_loopw [8] (fun i wr => ∃ k : Nat, k ≤ n ∧ i = .int .i64 k ∧ Rws B G n vs wr (part Ls k 0) ∧ Below B w wr) (fun i _ => n - (Go.RowKit.intOf i).toNat)
      case atStart => exact ⟨0, by omega, rfl, by rw [part_zero]; exact unhide HP2, unhide HBr⟩
      case round =>
        clear HP2 HBr
        obtain ⟨i, hi, rfl, hr, hbr⟩ := hrel
        by_cases hlt : i < n
        · have hlt' : (i : Int) < (n : Int) := by omega
          go_wp2
          have hbr0 := hide hbr
          have hr0 := hide hr
          clear hbr hr
          go_loopw [9] (fun x wq => ∃ k : Nat, k ≤ (Ls i).length ∧ x = .int .i64 k ∧ Rws B G n vs wq (part Ls i k) ∧ Below B w wq) (fun x _ => (Ls i).length - (Go.RowKit.intOf x).toNat)
          case atStart => exact ⟨0, by omega, rfl, unhide hr0, unhide hbr0⟩
          case round =>
            obtain ⟨k, hk, rfl, hq, hbq⟩ := hrel
            have hcell := hq.cell i hlt
            obtain ⟨p, c, hv⟩ : ∃ p c, vs i = .slice p (Ls i).length c := by
              obtain ⟨p, c, e, _⟩ := (hq.row i hlt).fls
              rw [part_len] at e
              exact ⟨p, c, e⟩
            rw [hv] at hcell
            by_cases hkl : k < (Ls i).length
            · have hkl' : (k : Int) < ((Ls i).length : Int) := by omega
              obtain ⟨g, cap', cur, e1, e2, e3, e4, e5, e6, e7⟩ := hq.at i k hlt (by rw [part_len]; exact hkl)
              rw [part_len] at e1
              rw [hv] at e1
              obtain ⟨rfl, rfl⟩ : p = some ⟨g, 0, none⟩ ∧ c = cap' := by cases e1; exact ⟨rfl, rfl⟩
              have HLn := hide (unhide HL i hlt)
              have hst := hide (part_step Ls i k hkl)
              have hq' := hide hq
              have hbq' := hide hbq
              clear e1 hq hbq
              generalize (Ls i).length = m at *
              go_wp2_with fail
              refine rza14 G n cap i g m c k [UInt8.ofNat i] (i : Int) rfl (by rfl) (by rfl) _ wr (by simp) rfl rfl rfl (WdA wr g k i) ⟨0, .inl ⟨rfl, (Below.refl _ _).drew, fun h => by cases h⟩⟩ ?hp (fun W => s_ix26 G n cap i hlt) ?l3 (fun W => s_cv i (by omega)) ?b7 ?t8 (fun W => s_mk i _) (fun W => s_ix22 g m c k hkl) ?s11 ?_
              case hp => exact fun x hx c L W hW => hW.pure x (by intro e; subst e; simp at hx) (by intro e; subst e; simp at hx)
              case l3 =>
                intro c0 L W hW _ _
                exact s_ld (T := 22) (fun _ => by kernel_rfl) ((World.cell?_of_block (hW.block G (unhide hq').ltG (Ne.symm e7))).trans hcell)
              case b7 =>
                intro c0 L W hW h7 _
                rcases hW with ⟨h1, h2, _⟩ | ⟨_, h2, _⟩
                · refine ⟨W.heap.size, W.alloc (.cells #[.int .u8 (i : Int)] 5), fun j hj => v14_ne _ _ _ _ _ _ _ _ _ _ _ _ j (fun e => by rw [e, h7] at hj; cases hj), s_bs105 (i : Int) W, .inl ⟨(upd_ne (by decide)).trans h1, h2.alloc h2.size _, fun _ => heap_alloc_new _ _⟩⟩
                · rw [h7] at h2; cases h2
              case t8 =>
                intro c0 L W hW h8 h7
                rcases hW with ⟨_, _, h3⟩ | ⟨_, _, h2, _⟩
                · exact s_tx i (by omega) (h3 h7)
                · rw [h8] at h2; cases h2
              case s11 =>
                intro c0 L W hW h11 h7 h8 _ _
                rcases hW with ⟨h1, h2, h3⟩ | ⟨h1, _⟩
                · have hg := (h2.block g e6).trans e3
                  obtain ⟨old, ho⟩ : ∃ old, W.cell? ⟨g, k, none⟩ = some old := by
                    rw [cell_of_row _ _ _ _ _ _ hg]
                    exact ⟨_, Array.getElem?_eq_getElem e4⟩
                  exact ⟨W.setCell ⟨g, k, none⟩ (S (mk i)), s_st (T := 9) (fun _ => by kernel_rfl) ho (frz hg k) (.inl ⟨_, rfl⟩), .inr ⟨upd_eq, upd_of h7, upd_of h8, W, h2, rfl⟩⟩
                · rw [h11] at h1; cases h1
              intro c0 L W hall hW
              have hW8 := hall 11 (by decide)
              obtain ⟨W0, hb0, hWe⟩ : ∃ W0, Below wr.heap.size wr W0 ∧ W = W0.setCell ⟨g, k, none⟩ (S (mk i)) := by
                rcases hW with ⟨h1, _⟩ | ⟨_, _, _, h3⟩
                · rw [hW8] at h1; cases h1
                · exact h3
              have HN := hide (((unhide hq').below hb0).set i k g hlt e2 (mk i))
              rw [unhide hst, ← hWe] at HN
              have HB := hide ((unhide hbq').trans (hb0.mono (by have := (unhide hq').ltG; have := (unhide hq').high; omega)))
              have HB2 := hide (show Below B w W by rw [hWe]; exact (unhide HB).setCell (p := ⟨g, k, none⟩) e5 _)
              clear hWe hW HB hb0
              simp only [Act.put, List.setIfInBounds_toArray, List.set_cons_succ, List.set_cons_zero]
              have hmm := unhide HLn
              go_wp2
              refine ⟨⟨k + 1, by omega, by go_num, unhide HN, unhide HB2⟩, ?_⟩
              simp [Go.RowKit.intOf]; omega
            · have hkl' : ¬ (k : Int) < ((Ls i).length : Int) := by omega
              have : k = (Ls i).length := by omega
              subst this
              rw [part_next] at hq
              generalize (Ls i).length = m at *
              have hq' := hide hq
              have hbq' := hide hbq
              clear hq hbq
              go_wp2
              refine ⟨⟨i + 1, by omega, by go_num, unhide hq', unhide hbq'⟩, ?_⟩
              simp [Go.RowKit.intOf]; omega
        · have hd : decide (i < n) = false := by simp; omega
          have : i = n := by omega
          subst this
          have hst := hide (show Alw B wr.heap.size G i vs (fun j => (Ls j).length) w 0 0 [] (.slice none 0 0) 0 (.slice none 0 0) wr from ⟨Vst.start (by
            refine ⟨hr.kind, hr.high, hr.cell, fun j hj => ?_, hr.apart, hr.above⟩
            have := hr.row j hj
            unfold part at this
            rw [if_pos hj] at this
            exact this), Seq.nil _ _ _, hbr, Nat.le_refl _, hr.ltG, Nat.le_of_lt (Nat.lt_of_le_of_lt hr.high hr.ltG)⟩)
          clear hr hbr hi hlt
          obtain ⟨m, hm⟩ : ∃ m : Nat → Nat, (fun j => (Ls j).length) = m := ⟨_, rfl⟩
          have HM := hide (show ∀ j, j < i → m j ≤ 100000 from fun j hj => by rw [← hm]; exact unhide HL j hj)
          rw [hm] at hst
          clear hm HL hd
          generalize wr.heap.size = b at *
          go_wp2
          go_loopw [7, 10] (fun al k wr => ∃ (lo i0 len : Nat) (V : List View) (x : Value), lo ≤ i ∧ k = .int .i64 lo ∧ V.length = 12 * lo ∧ (∀ j v, V[j]? = some v → v.i = j / 12) ∧ Alw B b G i vs m w lo i0 V x len al wr) (fun _ k _ => i - (Go.RowKit.intOf k).toNat)
          case atStart => exact ⟨0, 0, 0, [], .slice none 0 0, by omega, rfl, rfl, fun j v h => by simp at h, unhide hst⟩
          case round =>
            obtain ⟨lo, i0, len, V, x, hlo, rfl, hV, hVi, hA⟩ := hrel
            by_cases hlt : lo < i
            · have hlt' : (lo : Int) < (i : Int) := by omega
              have hcell := hA.vst.cell lo hlt
              have hA0 := hide (hA.take hlt)
              have HVi := hide hVi
              clear hA hVi
              go_wp2
              go_loopw [7, 11, 12] (fun al x c wr => ∃ (k : Nat) (V : List View), k ≤ 12 ∧ c = .int .i64 k ∧ V.length = 12 * lo + k ∧ (∀ j v, V[j]? = some v → v.i = j / 12) ∧ Alw B b G i vs m w (lo + 1) lo V x (m lo + k) al wr) (fun _ _ c _ => 12 - (Go.RowKit.intOf c).toNat)
              case atStart => exact ⟨0, V, by omega, rfl, hV, unhide HVi, unhide hA0⟩
              case round =>
                obtain ⟨k, V, hk, rfl, hV2, hVj, hA⟩ := hrel
                by_cases hlt2 : k < 12
                · have hlt2' : (k : Int) < 12 := by omega
                  have hml := unhide HM lo hlt
                  obtain ⟨p, c, hx, hv⟩ := hA.vst.view hlt (by omega)
                  have HA := hide hA
                  have HV := hide hv
                  have HX := hide hx
                  have HVj := hide hVj
                  have hwr : IntKind.u8.wrap (lo : Int) = (lo : Int) := by rw [IntKind.wrap_u8]; omega
                  rw [hx]
                  clear hA hv hx hcell hA0 HVi hVj
                  go_wp2_with (first
                    | (at_builtin; refine push30 rfl (.tmp 72) (.tmp 74) rfl _ (V.map View.val) rfl wr p (m lo + k) c (unhide HA).s1 (by rfl) (by simp; omega) (unhide HA).room ?_; intro v5 w5 hs5 hg5; have HA1 := hide ((unhide HA).push1 (unhide HV) hs5 hg5); clear hs5 hg5; have HA2 := hide ((unhide HA1).keep ((Below.refl _ w5).alloc (Nat.le_refl _) (.cells #[.int .u8 (lo : Int)] 5))); have hcv := s_tx (w := w5.alloc (.cells #[.int .u8 (lo : Int)] 5)) (g := w5.heap.size) lo (by omega) (heap_alloc_new _ _))
                    | (at_builtin; rw [mk_eq lo]; refine growF rfl (.tmp 76) (.tmp 82) rfl _ (List.replicate (m lo + k) (mk lo)) rfl (w5.alloc (.cells #[.int .u8 (lo : Int)] 5)) (mk lo) (unhide HX ▸ (unhide HA2).vst.xrow) (by rw [show (w5.alloc (.cells #[.int .u8 (lo : Int)] 5)).heap.size = w5.heap.size + 1 by simp]; rfl) (by simp; omega) ?_; intro v8 w8 hr8 hg8 ho8))
                  rw [List.length_replicate, ← unhide HX] at hg8
                  rw [← unhide HX] at ho8
                  refine ⟨⟨k + 1, V ++ [⟨p, m lo + k, c, lo⟩], by omega, by go_num, by simp; omega, ?_, (unhide HA2).grow hr8 hg8 ho8⟩, ?_⟩
                  · intro j v hj
                    rcases Nat.lt_or_ge j V.length with hjl | hjl
                    · rw [List.getElem?_append_left hjl] at hj
                      exact unhide HVj j v hj
                    · rw [List.getElem?_append_right hjl] at hj
                      rcases Nat.eq_zero_or_pos (j - V.length) with q | q
                      · rw [q] at hj
                        simp at hj
                        rw [← hj]
                        show lo = j / 12
                        omega
                      · rw [List.getElem?_eq_none (by simp; omega)] at hj
                        cases hj
                  · simp [Go.RowKit.intOf]; omega
                · have : k = 12 := by omega
                  subst this
                  have HA := hide hA
                  have HVj := hide hVj
                  clear hA hcell hA0 hVj HVi
                  go_wp2
                  refine ⟨⟨lo + 1, lo, m lo + 12, V, _, by omega, by go_num, by omega, unhide HVj, unhide HA⟩, ?_⟩
                  simp [Go.RowKit.intOf]; omega
            · have hd : decide (lo < i) = false := by simp; omega
              obtain ⟨p5, c5, e5⟩ := hA.s1.len
              rw [List.length_map] at e5
              subst e5
              have hVn : V.length ≤ 144 := by omega
              have HA := hide hA
              have HVi := hide hVi
              clear hA hst HM hV hVi
              go_wp2
              go_loopw [13] (fun k wr => ∃ j : Nat, j ≤ V.length ∧ k = .int .i64 j ∧ Alw B b G i vs m w lo i0 V x len (.slice p5 V.length c5) wr) (fun k _ => V.length - (Go.RowKit.intOf k).toNat)
              case atStart => exact ⟨0, by omega, rfl, unhide HA⟩
              case round =>
                obtain ⟨j, hj, rfl, hA⟩ := hrel
                by_cases hjl : j < V.length
                · have hjl' : (j : Int) < (V.length : Int) := by omega
                  obtain ⟨v, hv⟩ : ∃ v, V[j] = v := ⟨_, rfl⟩
                  have hmem : v ∈ V := hv ▸ List.getElem_mem hjl
                  have hv1 : (V.map View.val).getD j undef = .slice v.p v.n v.c := by simp [hjl, hv, View.val]
                  have hvi : v.i = j / 12 := unhide HVi j v (by rw [List.getElem?_eq_getElem hjl, hv])
                  have HA1 := hide hA
                  have hvn := hA.vst.size v hmem
                  have HI := hide hvi
                  clear hA HA hvi
                  go_wp2
                  go_loopw [14] (fun k wr => ∃ q : Nat, q ≤ v.n ∧ k = .int .i64 q ∧ Alw B b G i vs m w lo i0 V x len (.slice p5 V.length c5) wr) (fun k _ => v.n - (Go.RowKit.intOf k).toNat)
                  case atStart => exact ⟨0, by omega, rfl, unhide HA1⟩
                  case round =>
                    obtain ⟨q, hq, rfl, hA⟩ := hrel
                    obtain ⟨g5, cap5, e5, hc5⟩ := hA.s1.at j (by simpa using hjl)
                    rw [List.length_map] at e5
                    rw [hv1] at hc5
                    obtain ⟨rfl, rfl⟩ : p5 = some ⟨g5, 0, none⟩ ∧ c5 = cap5 := by cases e5; exact ⟨rfl, rfl⟩
                    clear e5 HA1
                    by_cases hql : q < v.n
                    · have hql' : (q : Int) < (v.n : Int) := by omega
                      obtain ⟨pv, ov, epv, hpl, hd0⟩ := Sts.at (hA.vst.good v hmem) hql
                      obtain ⟨g', cur', eg', _⟩ := hA.vst.flat v hmem _ epv
                      cases eg'
                      have hrep : (List.replicate v.n (mk v.i)).getD q [] = mk v.i := by simp [hql]
                      rw [hrep] at hd0
                      rw [epv] at hc5
                      rw [Nat.zero_add] at hd0
                      have K5 := hide (hA.s1.lt g5 rfl)
                      have C5 := hide hc5
                      have D0 := hide hd0
                      have KP := hide hpl
                      have HA2 := hide hA
                      clear hA hd0 hpl hrep hmem hv1 hv
                      go_wp2_with fail
                      refine rza30 g5 V.length c5 j pv v.n v.c q [UInt8.ofNat (j / 12)] (mk v.i) ((j / 12 : Nat) : Int) ((j / 12 : Nat) : Int) false rfl (by rfl) (by rfl) _ wr (by simp) rfl rfl rfl (WdB wr (j / 12)) ⟨0, (Below.refl _ _).drew, fun h => by cases h⟩ ?hp (fun W => s_ix26 g5 V.length c5 j hjl) ?l3 (fun W => s_ix22 pv v.n v.c q hql) ?l6 (fun W => s_quo j (by omega) _ _) (fun W => s_cv (j / 12) (by omega)) ?b10 ?t11 (fun W => s_mk (j / 12) _) ?n13 ?_
                      case hp => exact fun x hx c L W hW => ⟨hW.1, fun h => hW.2 ((upd_ne (by intro e; subst e; simp at hx)).symm.trans h)⟩
                      case l3 =>
                        intro c L W hW _ _
                        exact s_ld (T := 22) (fun _ => by kernel_rfl) ((World.cell?_of_block (hW.1.block g5 (unhide K5))).trans (unhide C5))
                      case l6 =>
                        intro c L W hW _ _
                        exact s_ld (T := 9) (fun _ => by kernel_rfl) ((World.cell?_of_block (hW.1.block pv (unhide KP))).trans (unhide D0))
                      case b10 =>
                        intro c L W hW h10 _
                        exact ⟨W.heap.size, W.alloc (.cells #[.int .u8 ((j / 12 : Nat) : Int)] 5), fun x hx => v30_ne _ _ _ _ _ _ _ _ _ _ _ _ _ _ _ x (fun e => by rw [e, h10] at hx; cases hx), s_bs105 _ W, hW.1.alloc hW.1.size _, fun _ => heap_alloc_new _ _⟩
                      case t11 =>
                        intro c L W hW _ h10
                        exact s_tx (j / 12) (by omega) (hW.2 h10)
                      case n13 =>
                        intro W
                        rw [unhide HI]
                        refine (s_neq _ _ _ _).trans ?_
                        simp [mk]
                      intro c L W _ hW
                      have HA3 := hide ((unhide HA2).keep hW.1)
                      clear hW HA2
                      simp only [Act.put, List.setIfInBounds_toArray, List.set_cons_succ, List.set_cons_zero]
                      go_wp2
                      refine ⟨⟨q + 1, by omega, by go_num, unhide HA3⟩, ?_⟩
                      simp [Go.RowKit.intOf]; omega
                    · have hdq : decide (q < v.n) = false := by simp; omega
                      have HA2 := hide hA
                      clear hA
                      go_wp2
                      refine ⟨⟨j + 1, by omega, by go_num, unhide HA2⟩, ?_⟩
                      simp [Go.RowKit.intOf]; omega
                · have hdj : decide (j < V.length) = false := by simp; omega
                  have HB := hide hA.below
                  clear hA HA
                  go_wp2
                  go_ret
                  exact ⟨rfl, unhide HB⟩
end Go.Proofs.YtpidmpefodnffaaGreatDoor
