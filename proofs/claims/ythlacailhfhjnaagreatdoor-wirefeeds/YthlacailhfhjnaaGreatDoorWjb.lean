import Derived.Test.YthlacailhfhjnaaGreatDoorWic
import Derived.Test.YthlacailhfhjnaaGreatDoorZwdo
namespace Go.Proofs.YthlacailhfhjnaaGreatDoor
open Go.RowKit Go.Lib
/-- A message's four cells. -/
abbrev M4 := Value × Value × Value × Value
def c4 (l : List M4) : List Value := l.flatMap fun x => [x.1, x.2.1, x.2.2.1, x.2.2.2]
theorem c4_append (a b : List M4) : c4 (a ++ b) = c4 a ++ c4 b := by simp [c4]
theorem c4_cons (x : M4) (l : List M4) : c4 (x :: l) = x.1 :: x.2.1 :: x.2.2.1 :: x.2.2.2 :: c4 l := by simp [c4]
theorem c4_len (l : List M4) : (c4 l).length = l.length * 4 := by
  induction l with
  | nil => rfl
  | cons x l ih => rw [c4_cons]; simp only [List.length_cons]; omega
theorem c4_get (l : List M4) (i : Nat) : (c4 l)[i]? = (l[i / 4]?).bind (fun x => [x.1, x.2.1, x.2.2.1, x.2.2.2][i % 4]?) := by
  induction l generalizing i with
  | nil => simp [c4]
  | cons x l ih =>
    rw [c4_cons]
    match i with
    | 0 => simp
    | 1 => simp
    | 2 => simp
    | 3 => simp
    | i + 4 =>
      have h1 : (i + 4) / 4 = i / 4 + 1 := by omega
      have h2 : (i + 4) % 4 = i % 4 := by omega
      rw [h1, h2]
      simp only [List.getElem?_cons_succ]
      exact ih i
theorem splice_get (l x : List Value) (b : Nat) (hx : x.length = 4) (hb : b + 4 ≤ l.length) (i : Nat) : (l.take b ++ x ++ l.drop (b + 4))[i]? = if i < b then l[i]? else if i < b + 4 then x[i - b]? else l[i]? := by
  rw [List.append_assoc]
  by_cases h1 : i < b
  · rw [List.getElem?_append_left (by simp; omega), List.getElem?_take, if_pos h1, if_pos h1]
  · rw [List.getElem?_append_right (by simp; omega), List.length_take, Nat.min_eq_left (by omega), if_neg h1]
    by_cases h2 : i < b + 4
    · rw [List.getElem?_append_left (by omega), if_pos h2]
    · rw [List.getElem?_append_right (by omega), List.getElem?_drop, if_neg h2]
      congr 1
      omega
/-- The mark of the i-th list, as a message. -/
def mm4 (i : Nat) : M4 := (S [], S [], .slice none 0 0, S (mk i).2)
/-- A slice of messages that has its block for itself. -/
def RwM (w : World) (v : Value) (L : List M4) : Prop := w.ownsRow 0 24 4 v L.length (c4 L)
theorem RwM.form {w : World} {v : Value} {L : List M4} (h : RwM w v L) : (v = .slice none 0 0 ∧ L = []) ∨ ∃ g cap cur, v = .slice (some ⟨g, 0, none⟩) L.length cap ∧ w.heap[g]? = some (.cells cur 24 (0, 0)) ∧ L.length ≤ cap ∧ cap ≤ maxLen ∧ cur.size = cap * 4 ∧ cur.toList.take (L.length * 4) = c4 L := by
  rcases h.2 with ⟨e, q⟩ | ⟨g, cap, cur, e1, _, e2, e3, e4, e5, e6⟩
  · exact .inl ⟨e, List.eq_nil_of_length_eq_zero q⟩
  · exact .inr ⟨g, cap, cur, e1, e2, e3, e4, e5, e6⟩
theorem RwM.keep {w w' : World} {v : Value} {L : List M4} (h : RwM w v L) (hb : ∀ g, v.ownBlock = some g → w'.heap[g]? = w.heap[g]?) : RwM w' v L := by
  refine ⟨h.1, ?_⟩
  rcases h.2 with q | ⟨g, cap, cur, e1, e2, e3, e4⟩
  · exact .inl q
  · exact .inr ⟨g, cap, cur, e1, e2, (hb g (by rw [e1]; rfl)).trans e3, e4⟩
theorem RwM.lt {w : World} {v : Value} {L : List M4} (h : RwM w v L) : ∀ g, v.ownBlock = some g → g < w.heap.size := fun g hg => (World.ownsRow.lt h g hg).2
theorem RwM.below {w w' : World} {v : Value} {L : List M4} (h : RwM w v L) (k : Below w.heap.size w w') : RwM w' v L := h.keep (fun g hg => k.block g (h.lt g hg))
theorem RwM.kind {w : World} {v : Value} {L : List M4} (h : RwM w v L) : ∀ g, v.ownBlock = some g → ∃ cur, w.heap[g]? = some (.cells cur 24 (0, 0)) := by
  intro g hg
  rcases h.form with ⟨q, _⟩ | ⟨g', cap, cur, e1, e2, _⟩
  · rw [q] at hg; cases hg
  · have : g' = g := by rw [e1] at hg; simpa [Value.ownBlock] using hg
    subst this
    exact ⟨cur, e2⟩
theorem RwM.sl {w : World} {v : Value} {L : List M4} (h : RwM w v L) : ∃ p cap, v = .slice p L.length cap := by
  rcases h.form with ⟨e, q⟩ | ⟨g, cap, cur, e1, _⟩
  · exact ⟨none, 0, by rw [e, q]; rfl⟩
  · exact ⟨_, cap, e1⟩
/-- A cell of a message. -/
theorem RwM.cell {w : World} {v : Value} {L : List M4} (h : RwM w v L) (g : Nat) (hg : v.ownBlock = some g) (i : Nat) (u : Value) (hu : (c4 L)[i]? = some u) : w.cell? ⟨g, i, none⟩ = some u := by
  have := World.ownsRow.cells h (g := g) hg i u hu
  have hadd : ∀ i, (⟨g, 0, none⟩ : Addr).add i = ⟨g, i, none⟩ := fun i => by unfold Addr.add; split <;> simp_all
  rwa [hadd] at this
def spm4 (cur : Array Value) (k : Nat) (f : M4) : Array Value := (cur.toList.take (k * 4) ++ [f.1, f.2.1, f.2.2.1, f.2.2.2] ++ cur.toList.drop (k * 4 + 4)).toArray
/-- A message of it is written over. -/
theorem RwM.set {w : World} {v : Value} {L : List M4} (h : RwM w v L) (g k : Nat) (hg : v.ownBlock = some g) (hk : k < L.length) (f : M4) {cur : Array Value} (hc : w.heap[g]? = some (.cells cur 24 (0, 0))) : RwM (w.setRow g (spm4 cur k f)) v (L.set k f) ∧ k * 4 + 4 ≤ cur.size := by
  rcases h.form with ⟨e, _⟩ | ⟨g', cap, cur', e1, e2, e3, e4, e5, e6⟩
  · rw [e] at hg; cases hg
  · have eg : g' = g := by rw [e1] at hg; simpa [Value.ownBlock] using hg
    subst eg
    obtain rfl : cur = cur' := by rw [hc] at e2; cases e2; rfl
    have hsz : k * 4 + 4 ≤ cur.size := by omega
    have hl : cur.toList.length = cur.size := rfl
    refine ⟨⟨by rw [c4_len], .inr ⟨g', cap, spm4 cur k f, by rw [List.length_set]; exact e1, Nat.zero_le _, setRow_heap w g' cur _ 24 _ e2, by rw [List.length_set]; exact e3, e4, ?_, ?_⟩⟩, hsz⟩
    · rw [← e5]
      simp [spm4]
      omega
    · rw [List.length_set]
      apply List.ext_getElem?
      intro i
      rw [List.getElem?_take, c4_get, List.getElem?_set]
      have hget : ∀ i, i < L.length * 4 → cur.toList[i]? = (c4 L)[i]? := fun i hi => by rw [← e6, List.getElem?_take, if_pos hi]
      by_cases hi : i < L.length * 4
      · rw [if_pos hi]
        show (cur.toList.take (k * 4) ++ [f.1, f.2.1, f.2.2.1, f.2.2.2] ++ cur.toList.drop (k * 4 + 4))[i]? = _
        rw [splice_get _ _ _ rfl (by rw [hl]; exact hsz)]
        by_cases h1 : i < k * 4
        · rw [if_pos h1, if_neg (by omega), hget i hi, c4_get]
        · by_cases h2 : i < k * 4 + 4
          · rw [if_neg h1, if_pos h2, if_pos (by omega), if_pos (by omega), show i - k * 4 = i % 4 by omega]
            rfl
          · rw [if_neg h1, if_neg h2, if_neg (by omega), hget i hi, c4_get]
      · rw [if_neg hi]
        have : ¬ i / 4 < L.length := by omega
        by_cases h1 : k = i / 4
        · omega
        · rw [if_neg h1, List.getElem?_eq_none (by omega)]
          rfl
/-- What an append of one message leaves as it was. -/
structure GrM (v : Value) (n : Nat) (w w' : World) : Prop where
  os : w'.os = w.os
  tape : w'.tape = w.tape
  output : w'.output = w.output
  size : w.heap.size ≤ w'.heap.size
  block : ∀ k, k < w.heap.size → v.ownBlock ≠ some k → w'.heap[k]? = w.heap[k]?
  cell : ∀ g j, v.ownBlock = some g → j < n * 4 → w'.cell? ⟨g, j, none⟩ = w.cell? ⟨g, j, none⟩
  kind : ∀ g cur, v.ownBlock = some g → w.heap[g]? = some (.cells cur 24 (0, 0)) → ∃ cur', w'.heap[g]? = some (.cells cur' 24 (0, 0))
theorem grM_run (ty : TypeId) (w : World) (v : Value) (L : List M4) (f : M4) (h : RwM w v L) (q : Nat) (c : Nat) (hq : w.heap[q]? = some (.cells #[f.1, f.2.1, f.2.2.1, f.2.2.2] 24 (0, 0))) (hone : ∀ u ∈ [f.1, f.2.1, f.2.2.1, f.2.2.2], u.oneCell' = true) (hL : L.length ≤ 10000000000) :
    ∃ v' w', (Builtin.append_ #[54, 54] ty #[v, .slice (some ⟨q, 0, none⟩) 1 c]).run Tryz.prog w = .ok v' w' ∧ RwM w' v' (L ++ [f]) ∧ GrM v L.length w w' ∧ ((∃ g, v.ownBlock = some g ∧ v'.ownBlock = some g) ∨ v'.ownBlock = some w.heap.size) := by
  obtain ⟨i0, hi, hz0, hz1, hz2⟩ := info_parts info24
  have hnews : ∀ j u, [f.1, f.2.1, f.2.2.1, f.2.2.2][j]? = some u → w.cell? ((⟨q, 0, none⟩ : Addr).add j) = some u := by
    intro j u hj
    have hadd : ∀ i, (⟨q, 0, none⟩ : Addr).add i = ⟨q, i, none⟩ := fun i => by unfold Addr.add; split <;> simp_all
    rw [hadd, cell_of_heap hq]
    match j, hj with
    | 0, hj => simpa using hj
    | 1, hj => simpa using hj
    | 2, hj => simpa using hj
    | 3, hj => simpa using hj
    | (j + 4), hj => simp at hj
  obtain ⟨v', w', hr, ho, hg, hv⟩ := run_append_own (P := Tryz.prog) w 0 54 ty 24 i0 _ 4 72 Tryz.underlying54 hi hz0 hz1 hz2 rfl (by decide) v L.length (c4 L) h ⟨q, 0, none⟩ 1 c [f.1, f.2.1, f.2.2.1, f.2.2.2] rfl hnews hone (by unfold maxLen; omega) (by omega) (Nat.zero_le _)
  refine ⟨v', w', hr, ?_, ?_⟩
  · unfold RwM
    rw [List.length_append, c4_append]
    exact ho
  have hal : ∀ (o : Obj) (k : Nat), k < w.heap.size → (w.drew.alloc o).heap[k]? = w.heap[k]? := fun o k hk => Below.heap_alloc w.drew o k hk
  have hgrow : ∀ o, GrM v L.length w (w.drew.alloc o) := fun o => by
    refine ⟨rfl, rfl, rfl, by simp, fun k hk _ => hal o k hk, fun g j hg _ => ?_, fun g cur hg e => ⟨cur, (hal o g (h.lt g hg)).trans e⟩⟩
    exact World.cell?_of_block (hal o g (h.lt g hg))
  rcases h.form with ⟨rfl, rfl⟩ | ⟨g, cap, cur, rfl, e2, e3, e4, e5, e6⟩
  · have hr2 := run_append_nil (P := Tryz.prog) w 54 ty 24 i0 _ Tryz.underlying54 hi hz0 ⟨q, 0, none⟩ 1 c [f.1, f.2.1, f.2.2.1, f.2.2.2] (by rw [hz1]; rfl) hnews (by omega) (by omega) (by rw [hz2]; omega)
    rw [hr2] at hr
    cases hr
    exact ⟨hgrow _, .inr rfl⟩
  · by_cases hroom : L.length + 1 ≤ cap
    · have hfit : L.length * i0.size + [f.1, f.2.1, f.2.2.1, f.2.2.2].length ≤ cur.size := by
        rw [hz1, e5]
        show L.length * 4 + 4 ≤ cap * 4
        omega
      have hr2 := run_append_room (P := Tryz.prog) w 54 ty 24 i0 Tryz.underlying54 hi g L.length cap cur e2 ⟨q, 0, none⟩ 1 c [f.1, f.2.1, f.2.2.1, f.2.2.2] (by rw [hz1]; rfl) hnews hone hroom hfit
      rw [hr2] at hr
      cases hr
      refine ⟨⟨rfl, rfl, rfl, by simp, fun k _ hk => setRow_other w g k _ (fun e => hk (by simp [Value.ownBlock, e])), fun g' j hg' hj => ?_, fun g' cur' hg' e => by
        obtain rfl : g = g' := by simpa [Value.ownBlock] using hg'
        exact ⟨_, setRow_heap w g cur _ 24 _ e2⟩⟩, .inl ⟨g, rfl, rfl⟩⟩
      obtain rfl : g = g' := by simpa [Value.ownBlock] using hg'
      rw [cell_of_heap (setRow_heap w g cur _ 24 _ e2), cell_of_heap e2, hz1]
      have hlt : j < cur.size := by omega
      have e : (cur.toList.take (L.length * 4) ++ [f.1, f.2.1, f.2.2.1, f.2.2.2] ++ cur.toList.drop (L.length * 4 + [f.1, f.2.1, f.2.2.1, f.2.2.2].length))[j]? = cur.toList[j]? := by
        rw [List.append_assoc, List.getElem?_append_left (by have := congrArg List.length e6; rw [c4_len] at this; omega), List.getElem?_take, if_pos hj]
      simpa using e
    · have holds : ∀ j u, (c4 L)[j]? = some u → w.cell? ((⟨g, 0, none⟩ : Addr).add j) = some u := World.ownsRow.cells h (g := g) rfl
      have hr2 := run_append_grow (P := Tryz.prog) w 54 ty 24 i0 _ Tryz.underlying54 hi hz0 ⟨g, 0, none⟩ L.length cap (c4 L) (by rw [hz1]; exact c4_len L) holds ⟨q, 0, none⟩ 1 c [f.1, f.2.1, f.2.2.1, f.2.2.2] (by rw [hz1]; rfl) hnews (by omega) (by omega) (growslice_fits (by omega) (by rw [hz2]; omega))
      rw [hr2] at hr
      cases hr
      exact ⟨hgrow _, .inr rfl⟩
/-- x = append(x, f), the new message in a block that was just laid. -/
theorem wp_grM {ops : Array Oper} {rest : List Oper} {o : Oper} {a : Act} {Q : Exit → Act → World → Prop} (hgd : o.guard = none) (s x : Operand)
    (ho : o.op = .call { callee := .builtin .append, args := #[s, x], argTypes := #[54, 54] }) (v : Value) (L : List M4) (hs : a.eval s = v) (w0 : World) (i : Nat) (hb : RwM w0 v L)
    (hx : a.eval x = .slice (some ⟨w0.heap.size, 0, none⟩) 1 1) (hL : L.length ≤ 10000000000)
    (h : ∀ v' w', RwM w' v' (L ++ [mm4 i]) → GrM v L.length (w0.alloc (.cells #[S [], S [], .slice none 0 0, S (mk i).2] 24)) w' → ((∃ g, v.ownBlock = some g ∧ v'.ownBlock = some g) ∨ v'.ownBlock = some (w0.heap.size + 1)) → wpList Tryz.prog ops Q rest (a.put o.dst v') w') : wpList Tryz.prog ops Q (o :: rest) a (w0.alloc (.cells #[S [], S [], .slice none 0 0, S (mk i).2] 24)) := by
  refine wpList_plain hgd fun K hK => ?_
  have hb' : RwM (w0.alloc (.cells #[S [], S [], .slice none 0 0, S (mk i).2] 24)) v L := hb.keep (fun g hg => Below.heap_alloc w0 _ g (hb.lt g hg))
  have hq : (w0.alloc (.cells #[S [], S [], .slice none 0 0, S (mk i).2] 24)).heap[w0.heap.size]? = some (.cells #[S [], S [], .slice none 0 0, S (mk i).2] 24 (0, 0)) := by
    show (w0.heap.push _)[w0.heap.size]? = _
    simp
  obtain ⟨v', w', hr, h2, h3, h4⟩ := grM_run o.type _ v L (mm4 i) hb' w0.heap.size 1 hq (by intro u hu; simp [mm4] at hu; rcases hu with rfl | rfl | rfl <;> rfl) hL
  have hsz : (w0.alloc (.cells #[S [], S [], .slice none 0 0, S (mk i).2] 24)).heap.size = w0.heap.size + 1 := by simp
  rw [hsz] at h4
  unfold Oper.wp execOp
  simp only [ho, resolve, invoke, builtin, Sem.run_bind, Sem.run_pure, Result.andThen_ok, List.map_toArray, List.map_cons, List.map_nil, hs, hx, hr]
  exact hK _ _ (h v' w' h2 h3 h4)
theorem info54 : (Tryz.prog.info? 54).map (fun i => (i.zero, i.size, i.bytes)) = some (some (.slice none 0 0), 1, 24) := by kernel_rfl
/-- all = append(all, x), of lists of messages. -/
theorem push51 {b : Nat} {ops : Array Oper} {rest : List Oper} {o : Oper} {a : Act} {Q : Exit → Act → World → Prop} (hgd : o.guard = none) (s x : Operand)
    (ho : o.op = .call { callee := .builtin .append, args := #[s, x], argTypes := #[51, 51] }) (v : Value) (xs : List Value) (hs : a.eval s = v) (w0 : World) (p : Option Addr) (n c : Nat) (hb : Sq b 54 w0 v xs)
    (hx : a.eval x = .slice (some ⟨w0.heap.size, 0, none⟩) 1 1) (hL : xs.length ≤ 100000000000) (hB : b ≤ w0.heap.size)
    (h : ∀ v' w', Sq b 54 w' v' (xs ++ [.slice p n c]) → (w0.alloc (.cells #[.slice p n c] 54)).grownBy w' v.ownBlock → wpList Tryz.prog ops Q rest (a.put o.dst v') w') : wpList Tryz.prog ops Q (o :: rest) a (w0.alloc (.cells #[.slice p n c] 54)) := by
  obtain ⟨i0, hi, hz0, hz1, hz2⟩ := info_parts info54
  refine wpList_append_own _ hgd s x 51 ho b 54 i0 (.slice none 0 0) 1 24 Tryz.underlying51 hi hz0 hz1 hz2 rfl (by decide) v xs.length xs hs (hb.keep (fun g hg => Below.heap_alloc w0 _ g (hb.lt g hg))) ⟨w0.heap.size, 0, none⟩ 1 1 [.slice p n c] hx rfl ?_ ?_ (by unfold maxLen; omega) (by omega) (by simp; omega) ?_
  · intro j u hj
    match j, hj with
    | 0, hj => simp at hj; subst hj; simp [Addr.add]
    | (j + 1), hj => simp at hj
  · intro u hu; simp at hu; subst hu; rfl
  · intro v' w' ho' hg _
    refine h v' w' ?_ hg
    unfold Sq
    rw [List.length_append]
    exact ho'
end Go.Proofs.YthlacailhfhjnaaGreatDoor
