import Derived.Test.YtmjaobddgaglhaaGreatDoorZfmd
import Derived.Test.YtmjaobddgaglhaaGreatDoorZsmc
import Derived.Test.YtmjaobddgaglhaaGreatDoorRcb
import Derived.Test.YtmjaobddgaglhaaGreatDoorZrgpr
import Derived.Test.YtmjaobddgaglhaaGreatDoorZfde
import Derived.Test.YtmjaobddgaglhaaGreatDoorZdsa
import Derived.Laws.CopyRow
import Derived.Laws.MakeOwn
import Derived.Test.YtmjaobddgaglhaaGreatDoorZscb
import Derived.Deep.Cut
import Derived.Deep.CutRange
import Derived.Test.YtmjaobddgaglhaaGreatDoorZdetl
import Derived.Test.YtmjaobddgaglhaaGreatDoorZprd
/- The document's Begin. -/
namespace Go.Proofs.YtmjaobddgaglhaaGreatDoor
open Go.RowKit
set_option maxHeartbeats 4000000
set_option maxRecDepth 8000
/-- What the document asks of a beginning. -/
theorem begOK_ref (id fi : Int) (na : Bs) (pu : Bool) (ch ol : Bs) (un : Int) (sd : List Bs) (idl ab gr li : Int) (su : Bs) (sc : List Bs) (s : Bs) (now : Int) : begOK id fi na pu ch ol un sd idl ab gr li su sc s (nr now) = (idn id && (idn fi && (cliOK na pu ch ol un sd idl ab gr li && (nm su && (right sc && s.length == 24))))) := by
  have ht : tim (nr now) = true := by have := nr_b now; simp [tim]; omega
  unfold begOK curOK famOK
  rw [right_nm su, ht]
  have hs : staOK (nr now) 1 0 = true := by rfl
  have hg : gnr 1 = true := by rfl
  rw [hs, hg]
  have hl : decide (nr now ≤ nr now) = true := by simp
  rw [hl]
  by_cases hc : cliOK na pu ch ol un sd idl ab gr li = true
  · have hc2 := hc
    simp only [cliOK, Bool.and_eq_true] at hc2
    rw [hc, hc2.1, hc2.2.2.2.1, hc2.2.2.2.2.1, hc2.2.2.2.2.2.1]
    cases idn id <;> cases idn fi <;> cases nm su <;> cases right sc <;> cases (s.length == 24) <;> rfl
  · rw [Bool.not_eq_true] at hc
    rw [hc]
    cases idn id <;> cases idn fi <;> cases (s.length == 24) <;> rfl
theorem own_set2 {B : Nat} {w : World} {v : Value} {u : List Bs} (h : OwnS B w v u) {k : Nat} {cs : Array Value} {t : TypeId} (hk : w.heap[k]? = some (.cells cs t (0, 0))) (ht : t ≠ 9) (vs : Array Value) : OwnS B (w.setRow k vs) v u := by
  refine ⟨h.1, ?_⟩
  rcases h.2 with q | ⟨g, cap, cur, e1, e2, e3, e4⟩
  · exact .inl q
  · have hgk : g ≠ k := by
      intro e
      subst e
      rw [e3] at hk
      simp at hk
      exact ht hk.2.symm
    exact .inr ⟨g, cap, cur, e1, e2, (setRow_other w k g vs hgk).trans e3, e4⟩
end Go.Proofs.YtmjaobddgaglhaaGreatDoor
/- Rotate. -/
namespace Go.Proofs.YtmjaobddgaglhaaGreatDoor
open Go.RowKit
set_option maxHeartbeats 4000000
set_option maxRecDepth 8000
theorem wp_stC {T : TypeId} (hs : ∀ w, (sizeOf T).run Tryz.prog w = .ok 1 w) {ops : Array Oper} {rest : List Oper} {o : Oper} {a : Act} {w : World} {Q : Exit → Act → World → Prop} (hgd : o.guard = none) (x y : Operand) (ho : o.op = .store T x y)
    (P j : Nat) (hx : a.eval x = .pointer (some ⟨P, j, none⟩)) (v : Value) (hy : a.eval y = v) (hv : v.cells = #[v]) (h1 : v.oneCell' = true) (old : Array Value) (t : TypeId) (hg : w.heap[P]? = some (.cells old t (0, 0))) (hj : j < old.size) (new : Array Value) (hn : old.setIfInBounds j v = new)
    (h : wpList Tryz.prog ops Q rest (a.put o.dst undef) (w.setRow P new)) : wpList Tryz.prog ops Q (o :: rest) a w := by
  refine wpList_plain hgd fun K hK => ?_
  have he := g_store ho hx hy (st_cell hs hg hj v hv h1 new hn)
  unfold Oper.wp
  rw [he]
  exact hK _ _ h
theorem jd_one {b0 b1 b2 b3 b4 b5 b6 b7 b8 : Bool} (h : jd b0 b1 b2 b3 b4 b5 b6 b7 b8 = 1) : b0 = true ∧ b1 = true ∧ b2 = true ∧ b3 = true ∧ b4 = true ∧ b5 = false ∧ b7 = true ∧ b8 = true := by
  revert h
  cases b0 <;> cases b1 <;> cases b2 <;> cases b3 <;> cases b4 <;> cases b5 <;> cases b6 <;> cases b7 <;> cases b8 <;> decide
theorem nr_nr (n : Int) : nr (nr n) = nr n := nr_id (nr_b n)
theorem jdg_nr (id : Int) (cl su : Bs) (sc : List Bs) (cr us idl ab gr ge tk st en co : Int) (ti fa tg : Int) (ha : Bs) (mi : Int) (sp : Bool) (at9 ne : Int) (se : Bs) (now : Int) : jdg id cl su sc cr us idl ab gr ge tk st en co ti fa tg ha mi sp at9 ne se (nr now) = jdg id cl su sc cr us idl ab gr ge tk st en co ti fa tg ha mi sp at9 ne se now := by
  unfold jdg alv wtn
  rw [nr_nr]
/-- What Rotate answers. -/
def rotE (jv us mi tm ge nx : Int) (s : Bs) : Int := if jv = 1 ∧ us ≤ tm ∧ mi ≤ tm then (if curOK nx s then (if ge = 1073741824 then 153 else 0) else 1) else 1
def OutR (w : World) (E : Int) (sc : List Bs) (F : Value → Array Value) (T U : Array Value) (e : Ending) (w' : World) : Prop :=
  if E = 0 then ∃ a cap, e = .returned (.tuple #[.agg (F (.slice a sc.length cap)), .agg T, .agg U, I 0]) ∧ OwnS w.heap.size w' (.slice a sc.length cap) sc ∧ Below w.heap.size w w' else e = .returned (.tuple #[.agg #[I 0, S [], S [], .slice none 0 0, I 0, I 0, I 0, I 0, I 0, I 0, I 0, I 0, I 0, I 0], .agg #[I 0, I 0, I 0, S [], I 0, .bool false, I 0, I 0, S []], .agg #[I 0, I 0, I 0, S [], I 0, .bool false, I 0, I 0, S []], I E]) ∧ Below w.heap.size w w'
def rot12T : List (Op × Option Tmp × Option (Nat × Bool)) := [
  (.load 24 (.tmp 5), some 74, none),
  (.call { callee := .value (.func 43), args := #[(.tmp 74)], argTypes := #[24] }, some 75, none),
  (.load 26 (.tmp 6), some 76, none),
  (.call { callee := .value (.func 44), args := #[(.tmp 76)], argTypes := #[26] }, some 77, none),
  (.load 26 (.tmp 15), some 78, none),
  (.store 24 (.tmp 10) (.tmp 75), none, none),
  (.store 26 (.tmp 11) (.tmp 77), none, none),
  (.store 26 (.tmp 12) (.tmp 78), none, none),
  (.assign (.const (I 0)), some 13, none)]
def rot12V (F0 : Array Value) (F : Value → Array Value) (T U : Array Value) (c : Value) : Nat → Value
  | 0 => .agg F0
  | 1 => .agg (F c)
  | 2 => .agg T
  | 3 => .agg T
  | 4 => .agg U
  | 5 => undef
  | 6 => undef
  | 7 => undef
  | 8 => I 0
  | _ => undef
theorem rot12V_ne {F0 : Array Value} {F : Value → Array Value} {T U : Array Value} {c c' : Value} {j : Nat} (h : j ≠ 1) : rot12V F0 F T U c j = rot12V F0 F T U c' j := by
  match j, h with
  | 0, _ => rfl
  | 1, h => exact absurd rfl h
  | 2, _ => rfl
  | 3, _ => rfl
  | 4, _ => rfl
  | 5, _ => rfl
  | 6, _ => rfl
  | 7, _ => rfl
  | 8, _ => rfl
  | (q + 9), _ => rfl
structure WR12 (w : World) (X D M : Nat) (F0 : Array Value) (F : Value → Array Value) (T U Zf Zt : Array Value) (u : List Bs) (c : Value) (L : Nat → Bool) (W : World) : Prop where
  be : Below X w W
  rf : W.heap[X]? = some (.cells F0 24 (0, 0))
  rt : W.heap[X + 1]? = some (.cells T 26 (0, 0))
  rd : W.heap[D]? = some (.cells U 26 (0, 0))
  r2 : W.heap[X + 2]? = some (.cells (if L 5 then F c else Zf) 24 (0, 0))
  r3 : W.heap[X + 3]? = some (.cells (if L 6 then T else Zt) 26 (0, 0))
  r4 : W.heap[X + 4]? = some (.cells (if L 7 then U else Zt) 26 (0, 0))
  own : L 1 = true → OwnS M W c u
  sz : M ≤ W.heap.size
  ord : L 5 = true → L 1 = true
theorem WR12.pure {w : World} {X D M : Nat} {F0 : Array Value} {F : Value → Array Value} {T U Zf Zt : Array Value} {u : List Bs} {c : Value} {L : Nat → Bool} {W : World} (h : WR12 w X D M F0 F T U Zf Zt u c L W) (i : Nat) (h1 : i ≠ 1) (h5 : i ≠ 5) (h6 : i ≠ 6) (h7 : i ≠ 7) : WR12 w X D M F0 F T U Zf Zt u c (upd L i) W :=
  ⟨h.be, h.rf, h.rt, h.rd, by rw [upd_ne (fun q => h5 q.symm)]; exact h.r2, by rw [upd_ne (fun q => h6 q.symm)]; exact h.r3, by rw [upd_ne (fun q => h7 q.symm)]; exact h.r4, fun e => h.own (by rw [upd_ne (fun q => h1 q.symm)] at e; exact e), h.sz, fun e => by rw [upd_ne (fun q => h5 q.symm)] at e; exact upd_of (h.ord e)⟩
theorem WR12.call {w : World} {X D M : Nat} {F0 : Array Value} {F : Value → Array Value} {T U Zf Zt : Array Value} {u : List Bs} {c : Value} {L : Nat → Bool} {W W2 : World} (h : WR12 w X D M F0 F T U Zf Zt u c L W) (hb : Below W.heap.size W W2) : WR12 w X D M F0 F T U Zf Zt u c L W2 :=
  ⟨h.be.trans (hb.mono (by have := lt_of_row h.rf; omega)), (hb.block _ (lt_of_row h.rf)).trans h.rf, (hb.block _ (lt_of_row h.rt)).trans h.rt, (hb.block _ (lt_of_row h.rd)).trans h.rd, (hb.block _ (lt_of_row h.r2)).trans h.r2, (hb.block _ (lt_of_row h.r3)).trans h.r3, (hb.block _ (lt_of_row h.r4)).trans h.r4, fun e => (h.own e).below hb (Nat.le_refl _), Nat.le_trans h.sz hb.size, h.ord⟩
theorem WR12.own1 {w : World} {X D M B : Nat} {F0 : Array Value} {F : Value → Array Value} {T U Zf Zt : Array Value} {u : List Bs} {c c' : Value} {L : Nat → Bool} {W : World} (h : WR12 w X D M F0 F T U Zf Zt u c L W) (h5 : L 5 = false) (ho : OwnS B W c' u) (hB : M ≤ B) : WR12 w X D M F0 F T U Zf Zt u c' (upd L 1) W :=
  ⟨h.be, h.rf, h.rt, h.rd, by have := h.r2; rw [h5] at this; rw [upd_ne (by decide), h5]; exact this, by rw [upd_ne (by decide)]; exact h.r3, by rw [upd_ne (by decide)]; exact h.r4, fun _ => ho.below (Below.refl _ _) hB, h.sz, fun _ => upd_eq⟩
theorem rotate_any (id : Int) (cl su : Bs) (va : Option Addr) (vc : Nat) (sc : List Bs) (cr us idl ab gr ge tk st en co : Int) (ti fa tg : Int) (ha : Bs) (mi : Int) (sp : Bool) (at9 ne : Int) (se : Bs) (nx : Int) (s : Bs) (now : Int) (w : World) (h_cl : cl.length ≤ 9223372036854775807) (h_su : su.length ≤ 9223372036854775807) (hsc : Sts w va sc.length sc) (hsl : sc.length ≤ 140737488355000) (hln : Lns sc) : Calls Tryz.prog 14 #[.agg #[I id, S cl, S su, .slice va sc.length vc, I cr, I us, I idl, I ab, I gr, I ge, I tk, I st, I en, I co], .agg #[I ti, I fa, I tg, S ha, I mi, .bool sp, I at9, I ne, S se], I nx, S s, I now] w (OutR w (rotE (jdg id cl su sc cr us idl ab gr ge tk st en co ti fa tg ha mi sp at9 ne se now) us mi (nr now) ge nx s) sc (fun v => #[I id, S cl, S su, v, I cr, I (nr now), I idl, I ab, I gr, I (ge + 1), I nx, I st, I en, I co]) #[I ti, I fa, I tg, S ha, I mi, .bool true, I (nr now), I nx, S s] #[I nx, I id, I (ge + 1), S (hsh nx s), I (nr now), .bool false, I 0, I 0, S []]) := by
  have hb : Below w.heap.size w (((((w.alloc (.cells #[I id, S cl, S su, .slice va sc.length vc, I cr, I us, I idl, I ab, I gr, I ge, I tk, I st, I en, I co] 24)).alloc (.cells #[I ti, I fa, I tg, S ha, I mi, .bool sp, I at9, I ne, S se] 26)).alloc (.cells #[I 0, S [], S [], .slice none 0 0, I 0, I 0, I 0, I 0, I 0, I 0, I 0, I 0, I 0, I 0] 24)).alloc (.cells #[I 0, I 0, I 0, S [], I 0, .bool false, I 0, I 0, S []] 26)).alloc (.cells #[I 0, I 0, I 0, S [], I 0, .bool false, I 0, I 0, S []] 26)) := ((((((Below.refl _ w).alloc (by simp <;> omega) _).alloc (by simp <;> omega) _).alloc (by simp <;> omega) _).alloc (by simp <;> omega) _).alloc (by simp <;> omega) _)
  have rf : (((((w.alloc (.cells #[I id, S cl, S su, .slice va sc.length vc, I cr, I us, I idl, I ab, I gr, I ge, I tk, I st, I en, I co] 24)).alloc (.cells #[I ti, I fa, I tg, S ha, I mi, .bool sp, I at9, I ne, S se] 26)).alloc (.cells #[I 0, S [], S [], .slice none 0 0, I 0, I 0, I 0, I 0, I 0, I 0, I 0, I 0, I 0, I 0] 24)).alloc (.cells #[I 0, I 0, I 0, S [], I 0, .bool false, I 0, I 0, S []] 26)).alloc (.cells #[I 0, I 0, I 0, S [], I 0, .bool false, I 0, I 0, S []] 26)).heap[w.heap.size]? = some (.cells #[I id, S cl, S su, .slice va sc.length vc, I cr, I us, I idl, I ab, I gr, I ge, I tk, I st, I en, I co] 24 (0, 0)) := al_old _ _ _ (by simp <;> omega) (al_old _ _ _ (by simp <;> omega) (al_old _ _ _ (by simp <;> omega) (al_old _ _ _ (by simp <;> omega) (al_new w (.cells #[I id, S cl, S su, .slice va sc.length vc, I cr, I us, I idl, I ab, I gr, I ge, I tk, I st, I en, I co] 24) (w.heap.size) (by simp)))))
  have rt : (((((w.alloc (.cells #[I id, S cl, S su, .slice va sc.length vc, I cr, I us, I idl, I ab, I gr, I ge, I tk, I st, I en, I co] 24)).alloc (.cells #[I ti, I fa, I tg, S ha, I mi, .bool sp, I at9, I ne, S se] 26)).alloc (.cells #[I 0, S [], S [], .slice none 0 0, I 0, I 0, I 0, I 0, I 0, I 0, I 0, I 0, I 0, I 0] 24)).alloc (.cells #[I 0, I 0, I 0, S [], I 0, .bool false, I 0, I 0, S []] 26)).alloc (.cells #[I 0, I 0, I 0, S [], I 0, .bool false, I 0, I 0, S []] 26)).heap[w.heap.size + 1]? = some (.cells #[I ti, I fa, I tg, S ha, I mi, .bool sp, I at9, I ne, S se] 26 (0, 0)) := al_old _ _ _ (by simp <;> omega) (al_old _ _ _ (by simp <;> omega) (al_old _ _ _ (by simp <;> omega) (al_new (w.alloc (.cells #[I id, S cl, S su, .slice va sc.length vc, I cr, I us, I idl, I ab, I gr, I ge, I tk, I st, I en, I co] 24)) (.cells #[I ti, I fa, I tg, S ha, I mi, .bool sp, I at9, I ne, S se] 26) (w.heap.size + 1) (by simp))))
  have ra : (((((w.alloc (.cells #[I id, S cl, S su, .slice va sc.length vc, I cr, I us, I idl, I ab, I gr, I ge, I tk, I st, I en, I co] 24)).alloc (.cells #[I ti, I fa, I tg, S ha, I mi, .bool sp, I at9, I ne, S se] 26)).alloc (.cells #[I 0, S [], S [], .slice none 0 0, I 0, I 0, I 0, I 0, I 0, I 0, I 0, I 0, I 0, I 0] 24)).alloc (.cells #[I 0, I 0, I 0, S [], I 0, .bool false, I 0, I 0, S []] 26)).alloc (.cells #[I 0, I 0, I 0, S [], I 0, .bool false, I 0, I 0, S []] 26)).heap[w.heap.size + 2]? = some (.cells #[I 0, S [], S [], .slice none 0 0, I 0, I 0, I 0, I 0, I 0, I 0, I 0, I 0, I 0, I 0] 24 (0, 0)) := al_old _ _ _ (by simp <;> omega) (al_old _ _ _ (by simp <;> omega) (al_new ((w.alloc (.cells #[I id, S cl, S su, .slice va sc.length vc, I cr, I us, I idl, I ab, I gr, I ge, I tk, I st, I en, I co] 24)).alloc (.cells #[I ti, I fa, I tg, S ha, I mi, .bool sp, I at9, I ne, S se] 26)) (.cells #[I 0, S [], S [], .slice none 0 0, I 0, I 0, I 0, I 0, I 0, I 0, I 0, I 0, I 0, I 0] 24) (w.heap.size + 2) (by simp)))
  have rb : (((((w.alloc (.cells #[I id, S cl, S su, .slice va sc.length vc, I cr, I us, I idl, I ab, I gr, I ge, I tk, I st, I en, I co] 24)).alloc (.cells #[I ti, I fa, I tg, S ha, I mi, .bool sp, I at9, I ne, S se] 26)).alloc (.cells #[I 0, S [], S [], .slice none 0 0, I 0, I 0, I 0, I 0, I 0, I 0, I 0, I 0, I 0, I 0] 24)).alloc (.cells #[I 0, I 0, I 0, S [], I 0, .bool false, I 0, I 0, S []] 26)).alloc (.cells #[I 0, I 0, I 0, S [], I 0, .bool false, I 0, I 0, S []] 26)).heap[w.heap.size + 3]? = some (.cells #[I 0, I 0, I 0, S [], I 0, .bool false, I 0, I 0, S []] 26 (0, 0)) := al_old _ _ _ (by simp <;> omega) (al_new (((w.alloc (.cells #[I id, S cl, S su, .slice va sc.length vc, I cr, I us, I idl, I ab, I gr, I ge, I tk, I st, I en, I co] 24)).alloc (.cells #[I ti, I fa, I tg, S ha, I mi, .bool sp, I at9, I ne, S se] 26)).alloc (.cells #[I 0, S [], S [], .slice none 0 0, I 0, I 0, I 0, I 0, I 0, I 0, I 0, I 0, I 0, I 0] 24)) (.cells #[I 0, I 0, I 0, S [], I 0, .bool false, I 0, I 0, S []] 26) (w.heap.size + 3) (by simp))
  have rd : (((((w.alloc (.cells #[I id, S cl, S su, .slice va sc.length vc, I cr, I us, I idl, I ab, I gr, I ge, I tk, I st, I en, I co] 24)).alloc (.cells #[I ti, I fa, I tg, S ha, I mi, .bool sp, I at9, I ne, S se] 26)).alloc (.cells #[I 0, S [], S [], .slice none 0 0, I 0, I 0, I 0, I 0, I 0, I 0, I 0, I 0, I 0, I 0] 24)).alloc (.cells #[I 0, I 0, I 0, S [], I 0, .bool false, I 0, I 0, S []] 26)).alloc (.cells #[I 0, I 0, I 0, S [], I 0, .bool false, I 0, I 0, S []] 26)).heap[w.heap.size + 4]? = some (.cells #[I 0, I 0, I 0, S [], I 0, .bool false, I 0, I 0, S []] 26 (0, 0)) := al_new ((((w.alloc (.cells #[I id, S cl, S su, .slice va sc.length vc, I cr, I us, I idl, I ab, I gr, I ge, I tk, I st, I en, I co] 24)).alloc (.cells #[I ti, I fa, I tg, S ha, I mi, .bool sp, I at9, I ne, S se] 26)).alloc (.cells #[I 0, S [], S [], .slice none 0 0, I 0, I 0, I 0, I 0, I 0, I 0, I 0, I 0, I 0, I 0] 24)).alloc (.cells #[I 0, I 0, I 0, S [], I 0, .bool false, I 0, I 0, S []] 26)) (.cells #[I 0, I 0, I 0, S [], I 0, .bool false, I 0, I 0, S []] 26) (w.heap.size + 4) (by simp)
  generalize hW1 : (((((w.alloc (.cells #[I id, S cl, S su, .slice va sc.length vc, I cr, I us, I idl, I ab, I gr, I ge, I tk, I st, I en, I co] 24)).alloc (.cells #[I ti, I fa, I tg, S ha, I mi, .bool sp, I at9, I ne, S se] 26)).alloc (.cells #[I 0, S [], S [], .slice none 0 0, I 0, I 0, I 0, I 0, I 0, I 0, I 0, I 0, I 0, I 0] 24)).alloc (.cells #[I 0, I 0, I 0, S [], I 0, .bool false, I 0, I 0, S []] 26)).alloc (.cells #[I 0, I 0, I 0, S [], I 0, .bool false, I 0, I 0, S []] 26)) = W1 at *
  have HB := hide hb
  have HRf := hide rf
  have HRt := hide rt
  have HRa := hide ra
  have HRb := hide rb
  have HRd := hide rd
  clear hb rf rt ra rb rd
  have XN := hide (fun W => fnear_any now W)
  have XJ : Hid (∀ W, Below w.heap.size w W → Calls Tryz.prog 8 #[.agg #[I id, S cl, S su, .slice va sc.length vc, I cr, I us, I idl, I ab, I gr, I ge, I tk, I st, I en, I co], .agg #[I ti, I fa, I tg, S ha, I mi, .bool sp, I at9, I ne, S se], I (nr now)] W fun e w' => e = .returned (I (jdg id cl su sc cr us idl ab gr ge tk st en co ti fa tg ha mi sp at9 ne se now)) ∧ Below W.heap.size W w') := hide (fun W h => by
    have q := judge_any id cl su va vc sc cr us idl ab gr ge tk st en co ti fa tg ha mi sp at9 ne se (nr now) W h_cl h_su (hsc.below h) hsl hln
    rw [jdg_nr] at q
    exact q)
  have XU := hide (fun W => current_any id cl su va vc sc cr (nr now) idl ab gr (ge + 1) nx st en co s W)
  have HCR : Hid (crt id (ge + 1) nx (nr now) s = if curOK nx s then (#[I nx, I id, I (ge + 1), S (hsh nx s), I (nr now), .bool false, I 0, I 0, S []], 0) else (#[I 0, I 0, I 0, S [], I 0, .bool false, I 0, I 0, S []], 1)) := hide rfl
  have XO := hide (fun W (h : Below w.heap.size w W) (h1 : cl.length ≤ 1000) (h2 : su.length ≤ 1000) (h3 : Shn sc) => ownFamily_any id cl su va vc sc cr (nr now) idl ab gr (ge + 1) nx st en co W h1 h2 (hsc.below h) h3)
  have XT := hide (fun W (h1 : ha.length ≤ 1000) (h2 : s.length ≤ 1000) => ownToken_any ti fa tg ha mi true (nr now) nx s W h1 h2)
  have HE : Hid (rotE (jdg id cl su sc cr us idl ab gr ge tk st en co ti fa tg ha mi sp at9 ne se now) us mi (nr now) ge nx s = if jdg id cl su sc cr us idl ab gr ge tk st en co ti fa tg ha mi sp at9 ne se now = 1 ∧ us ≤ nr now ∧ mi ≤ nr now then (if curOK nx s then (if ge = 1073741824 then 153 else 0) else 1) else 1) := hide rfl
  have HS : Hid (curOK nx s = true → s.length = 24) := hide (fun h => by simp [curOK] at h; exact h.2)
  have HJ1 : Hid (jdg id cl su sc cr us idl ab gr ge tk st en co ti fa tg ha mi sp at9 ne se now = 1 → 1 ≤ ge ∧ ge ≤ 1073741824 ∧ cl.length ≤ 1000 ∧ su.length ≤ 1000 ∧ Shn sc ∧ ha.length ≤ 1000) := hide (fun h => by
    obtain ⟨h0, h1, _⟩ := jd_one h
    simp only [famOK, Bool.and_eq_true] at h0
    simp only [tokOK, Bool.and_eq_true] at h1
    have hg := h0.2.2.2.2.2.2.2.2.2.2.2.2.1
    simp [gnr] at hg
    have hh := h1.2.2.2.1
    simp at hh
    exact ⟨hg.1, hg.2, by have := right_one h0.2.2.2.1; omega, by have := right_one h0.2.2.2.2.1; omega, shn_right h0.2.2.2.2.2.1, by omega⟩)
  have htm := nr_b now
  obtain ⟨ht0, ht1⟩ := htm
  generalize rotE (jdg id cl su sc cr us idl ab gr ge tk st en co ti fa tg ha mi sp at9 ne se now) us mi (nr now) ge nx s = E at *
  generalize jdg id cl su sc cr us idl ab gr ge tk st en co ti fa tg ha mi sp at9 ne se now = J at *
  generalize crt id (ge + 1) nx (nr now) s = R at *
  generalize hsh nx s = hh at *
  generalize nr now = tm at *
  generalize curOK nx s = b0 at *
  clear hsc hln h_cl h_su hsl
  go_enter Tryz.func14, Tryz.ntmps14
  go_wp2_with fail
  refine (unhide XN W1).mono ?_
  rintro e w2 ⟨rfl, h2⟩
  have hbB := (unhide HB).trans (h2.mono (unhide HB).size)
  have rf := (h2.block _ (lt_of_row (unhide HRf))).trans (unhide HRf)
  have rt := (h2.block _ (lt_of_row (unhide HRt))).trans (unhide HRt)
  have ra := (h2.block _ (lt_of_row (unhide HRa))).trans (unhide HRa)
  have rb := (h2.block _ (lt_of_row (unhide HRb))).trans (unhide HRb)
  have rd := (h2.block _ (lt_of_row (unhide HRd))).trans (unhide HRd)
  clear h2 HB HRf HRt HRa HRb HRd  hW1
  have cf_0 : w2.cell? ⟨w.heap.size, 0, none⟩ = some (I id) := cellr rf rfl
  have cf_1 : w2.cell? ⟨w.heap.size, 1, none⟩ = some (S cl) := cellr rf rfl
  have cf_2 : w2.cell? ⟨w.heap.size, 2, none⟩ = some (S su) := cellr rf rfl
  have cf_3 : w2.cell? ⟨w.heap.size, 3, none⟩ = some (.slice va sc.length vc) := cellr rf rfl
  have cf_4 : w2.cell? ⟨w.heap.size, 4, none⟩ = some (I cr) := cellr rf rfl
  have cf_5 : w2.cell? ⟨w.heap.size, 5, none⟩ = some (I us) := cellr rf rfl
  have cf_6 : w2.cell? ⟨w.heap.size, 6, none⟩ = some (I idl) := cellr rf rfl
  have cf_7 : w2.cell? ⟨w.heap.size, 7, none⟩ = some (I ab) := cellr rf rfl
  have cf_8 : w2.cell? ⟨w.heap.size, 8, none⟩ = some (I gr) := cellr rf rfl
  have cf_9 : w2.cell? ⟨w.heap.size, 9, none⟩ = some (I ge) := cellr rf rfl
  have cf_10 : w2.cell? ⟨w.heap.size, 10, none⟩ = some (I tk) := cellr rf rfl
  have cf_11 : w2.cell? ⟨w.heap.size, 11, none⟩ = some (I st) := cellr rf rfl
  have cf_12 : w2.cell? ⟨w.heap.size, 12, none⟩ = some (I en) := cellr rf rfl
  have cf_13 : w2.cell? ⟨w.heap.size, 13, none⟩ = some (I co) := cellr rf rfl
  have ct_0 : w2.cell? ⟨w.heap.size + 1, 0, none⟩ = some (I ti) := cellr rt rfl
  have ct_1 : w2.cell? ⟨w.heap.size + 1, 1, none⟩ = some (I fa) := cellr rt rfl
  have ct_2 : w2.cell? ⟨w.heap.size + 1, 2, none⟩ = some (I tg) := cellr rt rfl
  have ct_3 : w2.cell? ⟨w.heap.size + 1, 3, none⟩ = some (S ha) := cellr rt rfl
  have ct_4 : w2.cell? ⟨w.heap.size + 1, 4, none⟩ = some (I mi) := cellr rt rfl
  have ct_5 : w2.cell? ⟨w.heap.size + 1, 5, none⟩ = some (.bool sp) := cellr rt rfl
  have ct_6 : w2.cell? ⟨w.heap.size + 1, 6, none⟩ = some (I at9) := cellr rt rfl
  have ct_7 : w2.cell? ⟨w.heap.size + 1, 7, none⟩ = some (I ne) := cellr rt rfl
  have ct_8 : w2.cell? ⟨w.heap.size + 1, 8, none⟩ = some (S se) := cellr rt rfl
  have HB := hide hbB
  have HRf := hide rf
  have HRt := hide rt
  have HRa := hide ra
  have HRb := hide rb
  have HRd := hide rd
  clear hbB rf rt ra rb rd
  clear XN
  go_wp2_with fail
  refine (unhide XJ w2 (unhide HB)).mono ?_
  rintro e w3 ⟨rfl, h3⟩
  have hbB := (unhide HB).trans (h3.mono (unhide HB).size)
  have rf := (h3.block _ (lt_of_row (unhide HRf))).trans (unhide HRf)
  have rt := (h3.block _ (lt_of_row (unhide HRt))).trans (unhide HRt)
  have ra := (h3.block _ (lt_of_row (unhide HRa))).trans (unhide HRa)
  have rb := (h3.block _ (lt_of_row (unhide HRb))).trans (unhide HRb)
  have rd := (h3.block _ (lt_of_row (unhide HRd))).trans (unhide HRd)
  clear h3 HB HRf HRt HRa HRb HRd cf_0 cf_1 cf_2 cf_3 cf_4 cf_5 cf_6 cf_7 cf_8 cf_9 cf_10 cf_11 cf_12 cf_13 ct_0 ct_1 ct_2 ct_3 ct_4 ct_5 ct_6 ct_7 ct_8 
  have cf_5 : w3.cell? ⟨w.heap.size, 5, none⟩ = some (I us) := cellr rf rfl
  have cf_9 : w3.cell? ⟨w.heap.size, 9, none⟩ = some (I ge) := cellr rf rfl
  have ct_4 : w3.cell? ⟨w.heap.size + 1, 4, none⟩ = some (I mi) := cellr rt rfl
  have HB := hide hbB
  have HRf := hide rf
  have HRt := hide rt
  have HRa := hide ra
  have HRb := hide rb
  have HRd := hide rd
  clear hbB rf rt ra rb rd
  clear XJ
  by_cases hj : J = 1
  · subst hj
    obtain ⟨hg1, hg2, hs1, hs2, hs3, hs4⟩ := unhide HJ1 rfl
    clear HJ1
    have HS1 := hide hs1
    have HS2 := hide hs2
    have HS3 := hide hs3
    have HS4 := hide hs4
    clear hs1 hs2 hs3 hs4
    by_cases hu : tm < us
    · have hE : Hid (E = 1) := hide (by rw [unhide HE]; simp; omega)
      have du : decide (tm < us) = true := by simpa using hu
      clear HE
      go_wp2_with (first | (refine wp_stA inf24 rfl (.tmp 10) (.tmp 36) rfl (w.heap.size + 2) (by rfl) #[I 0, S [], S [], .slice none 0 0, I 0, I 0, I 0, I 0, I 0, I 0, I 0, I 0, I 0, I 0] (by rfl) #[I 0, S [], S [], .slice none 0 0, I 0, I 0, I 0, I 0, I 0, I 0, I 0, I 0, I 0, I 0] rfl rfl (unhide HRa) (by simp [Value.oneCell']) ?_; generalize hZ : w3.setRow (w.heap.size + 2) #[I 0, S [], S [], .slice none 0 0, I 0, I 0, I 0, I 0, I 0, I 0, I 0, I 0, I 0, I 0] = Z1; have HZ1 := hide hZ; clear hZ) | (refine wp_stA inf26 rfl (.tmp 11) (.tmp 37) rfl (w.heap.size + 3) (by rfl) #[I 0, I 0, I 0, S [], I 0, .bool false, I 0, I 0, S []] (by rfl) #[I 0, I 0, I 0, S [], I 0, .bool false, I 0, I 0, S []] rfl rfl (by rw [← unhide HZ1]; exact row_set (unhide HRb) (by omega)) (by simp [Value.oneCell']) ?_; generalize hZ : Z1.setRow (w.heap.size + 3) #[I 0, I 0, I 0, S [], I 0, .bool false, I 0, I 0, S []] = Z2; have HZ2 := hide hZ; clear hZ) | (refine wp_stA inf26 rfl (.tmp 12) (.tmp 38) rfl (w.heap.size + 4) (by rfl) #[I 0, I 0, I 0, S [], I 0, .bool false, I 0, I 0, S []] (by rfl) #[I 0, I 0, I 0, S [], I 0, .bool false, I 0, I 0, S []] rfl rfl (by rw [← unhide HZ2, ← unhide HZ1]; exact row_set (row_set (unhide HRd) (by omega)) (by omega)) (by simp [Value.oneCell']) ?_; generalize hZ : Z2.setRow (w.heap.size + 4) #[I 0, I 0, I 0, S [], I 0, .bool false, I 0, I 0, S []] = Z3; have HZ3 := hide hZ; clear hZ))
      refine out4c (T := 24) (n := 14) (U := 26) (m := 9) (p := 10) (p' := 11) (p2 := 12) (q := 13) (cs := #[I 0, S [], S [], .slice none 0 0, I 0, I 0, I 0, I 0, I 0, I 0, I 0, I 0, I 0, I 0]) (cs' := #[I 0, I 0, I 0, S [], I 0, .bool false, I 0, I 0, S []]) (cs2 := #[I 0, I 0, I 0, S [], I 0, .bool false, I 0, I 0, S []]) (fun _ => by kernel_rfl) (fun _ => by kernel_rfl) (fun _ => by kernel_rfl) (fun _ => by kernel_rfl) (Z := w.heap.size + 2) (Z' := w.heap.size + 3) (Z2 := w.heap.size + 4) (by rfl) (by rfl) (by rfl) (by rfl) (by rfl) (by rfl) (by rw [← unhide HZ3, ← unhide HZ2, ← unhide HZ1]; exact row_set (row_set (setRow_row (unhide HRa)) (by omega)) (by omega)) (by rfl) (by rw [← unhide HZ3, ← unhide HZ2, ← unhide HZ1]; exact row_set (setRow_row (row_set (unhide HRb) (by omega))) (by omega)) (by rfl) (by rw [← unhide HZ3, ← unhide HZ2, ← unhide HZ1]; exact setRow_row (row_set (row_set (unhide HRd) (by omega)) (by omega))) (by rfl) ?_
      rw [unhide hE]
      exact ⟨rfl, by rw [← unhide HZ3, ← unhide HZ2, ← unhide HZ1]; exact bel_set (bel_set (bel_set (unhide HB) _ _ (by omega) (unhide HB).size) _ _ (by omega) (by simpa using (unhide HB).size)) _ _ (by omega) (by simpa using (unhide HB).size)⟩
    · have du : decide (tm < us) = false := by simpa using hu
      by_cases hm : tm < mi
      · have hE : Hid (E = 1) := hide (by rw [unhide HE]; simp; omega)
        have dm : decide (tm < mi) = true := by simpa using hm
        clear HE
        go_wp2_with (first | (refine wp_stA inf24 rfl (.tmp 10) (.tmp 36) rfl (w.heap.size + 2) (by rfl) #[I 0, S [], S [], .slice none 0 0, I 0, I 0, I 0, I 0, I 0, I 0, I 0, I 0, I 0, I 0] (by rfl) #[I 0, S [], S [], .slice none 0 0, I 0, I 0, I 0, I 0, I 0, I 0, I 0, I 0, I 0, I 0] rfl rfl (unhide HRa) (by simp [Value.oneCell']) ?_; generalize hZ : w3.setRow (w.heap.size + 2) #[I 0, S [], S [], .slice none 0 0, I 0, I 0, I 0, I 0, I 0, I 0, I 0, I 0, I 0, I 0] = Z1; have HZ1 := hide hZ; clear hZ) | (refine wp_stA inf26 rfl (.tmp 11) (.tmp 37) rfl (w.heap.size + 3) (by rfl) #[I 0, I 0, I 0, S [], I 0, .bool false, I 0, I 0, S []] (by rfl) #[I 0, I 0, I 0, S [], I 0, .bool false, I 0, I 0, S []] rfl rfl (by rw [← unhide HZ1]; exact row_set (unhide HRb) (by omega)) (by simp [Value.oneCell']) ?_; generalize hZ : Z1.setRow (w.heap.size + 3) #[I 0, I 0, I 0, S [], I 0, .bool false, I 0, I 0, S []] = Z2; have HZ2 := hide hZ; clear hZ) | (refine wp_stA inf26 rfl (.tmp 12) (.tmp 38) rfl (w.heap.size + 4) (by rfl) #[I 0, I 0, I 0, S [], I 0, .bool false, I 0, I 0, S []] (by rfl) #[I 0, I 0, I 0, S [], I 0, .bool false, I 0, I 0, S []] rfl rfl (by rw [← unhide HZ2, ← unhide HZ1]; exact row_set (row_set (unhide HRd) (by omega)) (by omega)) (by simp [Value.oneCell']) ?_; generalize hZ : Z2.setRow (w.heap.size + 4) #[I 0, I 0, I 0, S [], I 0, .bool false, I 0, I 0, S []] = Z3; have HZ3 := hide hZ; clear hZ))
        refine out4c (T := 24) (n := 14) (U := 26) (m := 9) (p := 10) (p' := 11) (p2 := 12) (q := 13) (cs := #[I 0, S [], S [], .slice none 0 0, I 0, I 0, I 0, I 0, I 0, I 0, I 0, I 0, I 0, I 0]) (cs' := #[I 0, I 0, I 0, S [], I 0, .bool false, I 0, I 0, S []]) (cs2 := #[I 0, I 0, I 0, S [], I 0, .bool false, I 0, I 0, S []]) (fun _ => by kernel_rfl) (fun _ => by kernel_rfl) (fun _ => by kernel_rfl) (fun _ => by kernel_rfl) (Z := w.heap.size + 2) (Z' := w.heap.size + 3) (Z2 := w.heap.size + 4) (by rfl) (by rfl) (by rfl) (by rfl) (by rfl) (by rfl) (by rw [← unhide HZ3, ← unhide HZ2, ← unhide HZ1]; exact row_set (row_set (setRow_row (unhide HRa)) (by omega)) (by omega)) (by rfl) (by rw [← unhide HZ3, ← unhide HZ2, ← unhide HZ1]; exact row_set (setRow_row (row_set (unhide HRb) (by omega))) (by omega)) (by rfl) (by rw [← unhide HZ3, ← unhide HZ2, ← unhide HZ1]; exact setRow_row (row_set (row_set (unhide HRd) (by omega)) (by omega))) (by rfl) ?_
        rw [unhide hE]
        exact ⟨rfl, by rw [← unhide HZ3, ← unhide HZ2, ← unhide HZ1]; exact bel_set (bel_set (bel_set (unhide HB) _ _ (by omega) (unhide HB).size) _ _ (by omega) (by simpa using (unhide HB).size)) _ _ (by omega) (by simpa using (unhide HB).size)⟩
      · have dm : decide (tm < mi) = false := by simpa using hm
        have HE2 : Hid (E = if b0 then (if ge = 1073741824 then 153 else 0) else 1) := hide (by rw [unhide HE, if_pos ⟨rfl, by omega, by omega⟩])
        clear HE hu hm
        go_upto_region 6 with (first | (refine wp_stC (T := 3) (fun _ => by kernel_rfl) rfl (.tmp 47) (.tmp 44) rfl (w.heap.size) 9 (by rfl) (I (ge + 1)) (by rfl) rfl rfl #[I id, S cl, S su, .slice va sc.length vc, I cr, I us, I idl, I ab, I gr, I ge, I tk, I st, I en, I co] 24 (unhide HRf) (by simp) #[I id, S cl, S su, .slice va sc.length vc, I cr, I us, I idl, I ab, I gr, I (ge + 1), I tk, I st, I en, I co] rfl ?_; generalize hY : w3.setRow (w.heap.size) #[I id, S cl, S su, .slice va sc.length vc, I cr, I us, I idl, I ab, I gr, I (ge + 1), I tk, I st, I en, I co] = Y1; have HY1 := hide hY; clear hY) | (refine wp_stC (T := 3) (fun _ => by kernel_rfl) rfl (.tmp 48) (.tmp 45) rfl (w.heap.size) 10 (by rfl) (I nx) (by rfl) rfl rfl #[I id, S cl, S su, .slice va sc.length vc, I cr, I us, I idl, I ab, I gr, I (ge + 1), I tk, I st, I en, I co] 24 (by rw [← unhide HY1]; exact setRow_row (unhide HRf)) (by simp) #[I id, S cl, S su, .slice va sc.length vc, I cr, I us, I idl, I ab, I gr, I (ge + 1), I nx, I st, I en, I co] rfl ?_; generalize hY : Y1.setRow (w.heap.size) #[I id, S cl, S su, .slice va sc.length vc, I cr, I us, I idl, I ab, I gr, I (ge + 1), I nx, I st, I en, I co] = Y2; have HY2 := hide hY; clear hY) | (refine wp_stC (T := 3) (fun _ => by kernel_rfl) rfl (.tmp 49) (.tmp 46) rfl (w.heap.size) 5 (by rfl) (I tm) (by rfl) rfl rfl #[I id, S cl, S su, .slice va sc.length vc, I cr, I us, I idl, I ab, I gr, I (ge + 1), I nx, I st, I en, I co] 24 (by rw [← unhide HY2, ← unhide HY1]; exact setRow_row (setRow_row (unhide HRf))) (by simp) #[I id, S cl, S su, .slice va sc.length vc, I cr, I tm, I idl, I ab, I gr, I (ge + 1), I nx, I st, I en, I co] rfl ?_; generalize hY : Y2.setRow (w.heap.size) #[I id, S cl, S su, .slice va sc.length vc, I cr, I tm, I idl, I ab, I gr, I (ge + 1), I nx, I st, I en, I co] = Y3; have HY3 := hide hY; clear hY))
        have rf : Y3.heap[w.heap.size]? = some (.cells #[I id, S cl, S su, .slice va sc.length vc, I cr, I tm, I idl, I ab, I gr, I (ge + 1), I nx, I st, I en, I co] 24 (0, 0)) := by rw [← unhide HY3, ← unhide HY2, ← unhide HY1]; exact setRow_row (setRow_row (setRow_row (unhide HRf)))
        have rt : Y3.heap[w.heap.size + 1]? = some (.cells #[I ti, I fa, I tg, S ha, I mi, .bool sp, I at9, I ne, S se] 26 (0, 0)) := by rw [← unhide HY3, ← unhide HY2, ← unhide HY1]; exact row_set (row_set (row_set (unhide HRt) (by omega)) (by omega)) (by omega)
        have ra : Y3.heap[w.heap.size + 2]? = some (.cells #[I 0, S [], S [], .slice none 0 0, I 0, I 0, I 0, I 0, I 0, I 0, I 0, I 0, I 0, I 0] 24 (0, 0)) := by rw [← unhide HY3, ← unhide HY2, ← unhide HY1]; exact row_set (row_set (row_set (unhide HRa) (by omega)) (by omega)) (by omega)
        have rb : Y3.heap[w.heap.size + 3]? = some (.cells #[I 0, I 0, I 0, S [], I 0, .bool false, I 0, I 0, S []] 26 (0, 0)) := by rw [← unhide HY3, ← unhide HY2, ← unhide HY1]; exact row_set (row_set (row_set (unhide HRb) (by omega)) (by omega)) (by omega)
        have rd : Y3.heap[w.heap.size + 4]? = some (.cells #[I 0, I 0, I 0, S [], I 0, .bool false, I 0, I 0, S []] 26 (0, 0)) := by rw [← unhide HY3, ← unhide HY2, ← unhide HY1]; exact row_set (row_set (row_set (unhide HRd) (by omega)) (by omega)) (by omega)
        have hb : Below w.heap.size w Y3 := by rw [← unhide HY3, ← unhide HY2, ← unhide HY1]; exact bel_set (bel_set (bel_set (unhide HB) _ _ (Nat.le_refl _) (unhide HB).size) _ _ (Nat.le_refl _) (by simpa using (unhide HB).size)) _ _ (Nat.le_refl _) (by simpa using (unhide HB).size)
        clear HB HRf HRt HRa HRb HRd cf_5 cf_9 ct_4 HY1 HY2 HY3
        clear Y1 Y2
        generalize Y3 = W4 at *
        have cf_0 : W4.cell? ⟨w.heap.size, 0, none⟩ = some (I id) := cellr rf rfl
        have cf_1 : W4.cell? ⟨w.heap.size, 1, none⟩ = some (S cl) := cellr rf rfl
        have cf_2 : W4.cell? ⟨w.heap.size, 2, none⟩ = some (S su) := cellr rf rfl
        have cf_3 : W4.cell? ⟨w.heap.size, 3, none⟩ = some (.slice va sc.length vc) := cellr rf rfl
        have cf_4 : W4.cell? ⟨w.heap.size, 4, none⟩ = some (I cr) := cellr rf rfl
        have cf_5 : W4.cell? ⟨w.heap.size, 5, none⟩ = some (I tm) := cellr rf rfl
        have cf_6 : W4.cell? ⟨w.heap.size, 6, none⟩ = some (I idl) := cellr rf rfl
        have cf_7 : W4.cell? ⟨w.heap.size, 7, none⟩ = some (I ab) := cellr rf rfl
        have cf_8 : W4.cell? ⟨w.heap.size, 8, none⟩ = some (I gr) := cellr rf rfl
        have cf_9 : W4.cell? ⟨w.heap.size, 9, none⟩ = some (I (ge + 1)) := cellr rf rfl
        have cf_10 : W4.cell? ⟨w.heap.size, 10, none⟩ = some (I nx) := cellr rf rfl
        have cf_11 : W4.cell? ⟨w.heap.size, 11, none⟩ = some (I st) := cellr rf rfl
        have cf_12 : W4.cell? ⟨w.heap.size, 12, none⟩ = some (I en) := cellr rf rfl
        have cf_13 : W4.cell? ⟨w.heap.size, 13, none⟩ = some (I co) := cellr rf rfl
        have HB := hide hb
        have HRf := hide rf
        have HRt := hide rt
        have HRa := hide ra
        have HRb := hide rb
        have HRd := hide rd
        clear hb rf rt ra rb rd
        cases b0
        · have hR : R = (#[I 0, I 0, I 0, S [], I 0, .bool false, I 0, I 0, S []], 1) := unhide HCR
          subst hR
          clear HCR
          go_wp2_with fail
          refine (unhide XU W4).mono ?_
          rintro e w5 ⟨rfl, h5⟩
          have hbB := (unhide HB).trans (h5.mono (unhide HB).size)
          have rf := (h5.block _ (lt_of_row (unhide HRf))).trans (unhide HRf)
          have rt := (h5.block _ (lt_of_row (unhide HRt))).trans (unhide HRt)
          have ra := (h5.block _ (lt_of_row (unhide HRa))).trans (unhide HRa)
          have rb := (h5.block _ (lt_of_row (unhide HRb))).trans (unhide HRb)
          have rd := (h5.block _ (lt_of_row (unhide HRd))).trans (unhide HRd)
          clear h5 HB HRf HRt HRa HRb HRd cf_0 cf_1 cf_2 cf_3 cf_4 cf_5 cf_6 cf_7 cf_8 cf_9 cf_10 cf_11 cf_12 cf_13 
          have HB := hide hbB
          have HRf := hide rf
          have HRt := hide rt
          have HRa := hide ra
          have HRb := hide rb
          have HRd := hide rd
          clear hbB rf rt ra rb rd
          clear XU
          go_upto_region 7 with (refine wp_stA inf26 rfl (.tmp 15) (.tmp 54) rfl w5.heap.size (by rfl) #[I 0, I 0, I 0, S [], I 0, .bool false, I 0, I 0, S []] (by rfl) #[I 0, I 0, I 0, S [], I 0, .bool false, I 0, I 0, S []] rfl rfl (heap_alloc_new _ _) (by simp [Value.oneCell']) ?_; generalize hW6 : (w5.alloc (.cells #[I 0, I 0, I 0, S [], I 0, .bool false, I 0, I 0, S []] 26)).setRow w5.heap.size #[I 0, I 0, I 0, S [], I 0, .bool false, I 0, I 0, S []] = W6)
          obtain ⟨h6, rn⟩ := new_row hW6
          have HSZ := hide (lt_of_row (unhide HRd))
          clear hW6
          have hbB := (unhide HB).trans (h6.mono (unhide HB).size)
          have rf := (h6.block _ (lt_of_row (unhide HRf))).trans (unhide HRf)
          have rt := (h6.block _ (lt_of_row (unhide HRt))).trans (unhide HRt)
          have ra := (h6.block _ (lt_of_row (unhide HRa))).trans (unhide HRa)
          have rb := (h6.block _ (lt_of_row (unhide HRb))).trans (unhide HRb)
          have rd := (h6.block _ (lt_of_row (unhide HRd))).trans (unhide HRd)
          clear h6 HB HRf HRt HRa HRb HRd  
          have HB := hide hbB
          have HRf := hide rf
          have HRt := hide rt
          have HRa := hide ra
          have HRb := hide rb
          have HRd := hide rd
          have HRn := hide rn
          clear hbB rf rt ra rb rd rn
          have hE : Hid (E = 1) := hide (unhide HE2)
          clear HE2
          go_wp2_with (first | (refine wp_stA inf24 rfl (.tmp 10) (.tmp 63) rfl (w.heap.size + 2) (by rfl) #[I 0, S [], S [], .slice none 0 0, I 0, I 0, I 0, I 0, I 0, I 0, I 0, I 0, I 0, I 0] (by rfl) #[I 0, S [], S [], .slice none 0 0, I 0, I 0, I 0, I 0, I 0, I 0, I 0, I 0, I 0, I 0] rfl rfl (unhide HRa) (by simp [Value.oneCell']) ?_; generalize hZ : W6.setRow (w.heap.size + 2) #[I 0, S [], S [], .slice none 0 0, I 0, I 0, I 0, I 0, I 0, I 0, I 0, I 0, I 0, I 0] = Z1; have HZ1 := hide hZ; clear hZ) | (refine wp_stA inf26 rfl (.tmp 11) (.tmp 64) rfl (w.heap.size + 3) (by rfl) #[I 0, I 0, I 0, S [], I 0, .bool false, I 0, I 0, S []] (by rfl) #[I 0, I 0, I 0, S [], I 0, .bool false, I 0, I 0, S []] rfl rfl (by rw [← unhide HZ1]; exact row_set (unhide HRb) (by omega)) (by simp [Value.oneCell']) ?_; generalize hZ : Z1.setRow (w.heap.size + 3) #[I 0, I 0, I 0, S [], I 0, .bool false, I 0, I 0, S []] = Z2; have HZ2 := hide hZ; clear hZ) | (refine wp_stA inf26 rfl (.tmp 12) (.tmp 65) rfl (w.heap.size + 4) (by rfl) #[I 0, I 0, I 0, S [], I 0, .bool false, I 0, I 0, S []] (by rfl) #[I 0, I 0, I 0, S [], I 0, .bool false, I 0, I 0, S []] rfl rfl (by rw [← unhide HZ2, ← unhide HZ1]; exact row_set (row_set (unhide HRd) (by omega)) (by omega)) (by simp [Value.oneCell']) ?_; generalize hZ : Z2.setRow (w.heap.size + 4) #[I 0, I 0, I 0, S [], I 0, .bool false, I 0, I 0, S []] = Z3; have HZ3 := hide hZ; clear hZ))
          refine out4c (T := 24) (n := 14) (U := 26) (m := 9) (p := 10) (p' := 11) (p2 := 12) (q := 13) (cs := #[I 0, S [], S [], .slice none 0 0, I 0, I 0, I 0, I 0, I 0, I 0, I 0, I 0, I 0, I 0]) (cs' := #[I 0, I 0, I 0, S [], I 0, .bool false, I 0, I 0, S []]) (cs2 := #[I 0, I 0, I 0, S [], I 0, .bool false, I 0, I 0, S []]) (fun _ => by kernel_rfl) (fun _ => by kernel_rfl) (fun _ => by kernel_rfl) (fun _ => by kernel_rfl) (Z := w.heap.size + 2) (Z' := w.heap.size + 3) (Z2 := w.heap.size + 4) (by rfl) (by rfl) (by rfl) (by rfl) (by rfl) (by rfl) (by rw [← unhide HZ3, ← unhide HZ2, ← unhide HZ1]; exact row_set (row_set (setRow_row (unhide HRa)) (by omega)) (by omega)) (by rfl) (by rw [← unhide HZ3, ← unhide HZ2, ← unhide HZ1]; exact row_set (setRow_row (row_set (unhide HRb) (by omega))) (by omega)) (by rfl) (by rw [← unhide HZ3, ← unhide HZ2, ← unhide HZ1]; exact setRow_row (row_set (row_set (unhide HRd) (by omega)) (by omega))) (by rfl) ?_
          rw [unhide hE]
          exact ⟨rfl, by rw [← unhide HZ3, ← unhide HZ2, ← unhide HZ1]; exact bel_set (bel_set (bel_set (unhide HB) _ _ (by omega) (unhide HB).size) _ _ (by omega) (by simpa using (unhide HB).size)) _ _ (by omega) (by simpa using (unhide HB).size)⟩
        · have hR : R = (#[I nx, I id, I (ge + 1), S (hh), I tm, .bool false, I 0, I 0, S []], 0) := unhide HCR
          subst hR
          clear HCR
          go_wp2_with fail
          refine (unhide XU W4).mono ?_
          rintro e w5 ⟨rfl, h5⟩
          have hbB := (unhide HB).trans (h5.mono (unhide HB).size)
          have rf := (h5.block _ (lt_of_row (unhide HRf))).trans (unhide HRf)
          have rt := (h5.block _ (lt_of_row (unhide HRt))).trans (unhide HRt)
          have ra := (h5.block _ (lt_of_row (unhide HRa))).trans (unhide HRa)
          have rb := (h5.block _ (lt_of_row (unhide HRb))).trans (unhide HRb)
          have rd := (h5.block _ (lt_of_row (unhide HRd))).trans (unhide HRd)
          clear h5 HB HRf HRt HRa HRb HRd cf_0 cf_1 cf_2 cf_3 cf_4 cf_5 cf_6 cf_7 cf_8 cf_9 cf_10 cf_11 cf_12 cf_13 
          have HB := hide hbB
          have HRf := hide rf
          have HRt := hide rt
          have HRa := hide ra
          have HRb := hide rb
          have HRd := hide rd
          clear hbB rf rt ra rb rd
          clear XU
          go_upto_region 7 with (refine wp_stA inf26 rfl (.tmp 15) (.tmp 54) rfl w5.heap.size (by rfl) #[I nx, I id, I (ge + 1), S (hh), I tm, .bool false, I 0, I 0, S []] (by rfl) #[I 0, I 0, I 0, S [], I 0, .bool false, I 0, I 0, S []] rfl rfl (heap_alloc_new _ _) (by simp [Value.oneCell']) ?_; generalize hW6 : (w5.alloc (.cells #[I 0, I 0, I 0, S [], I 0, .bool false, I 0, I 0, S []] 26)).setRow w5.heap.size #[I nx, I id, I (ge + 1), S (hh), I tm, .bool false, I 0, I 0, S []] = W6)
          obtain ⟨h6, rn⟩ := new_row hW6
          have HSZ := hide (lt_of_row (unhide HRd))
          clear hW6
          have hbB := (unhide HB).trans (h6.mono (unhide HB).size)
          have rf := (h6.block _ (lt_of_row (unhide HRf))).trans (unhide HRf)
          have rt := (h6.block _ (lt_of_row (unhide HRt))).trans (unhide HRt)
          have ra := (h6.block _ (lt_of_row (unhide HRa))).trans (unhide HRa)
          have rb := (h6.block _ (lt_of_row (unhide HRb))).trans (unhide HRb)
          have rd := (h6.block _ (lt_of_row (unhide HRd))).trans (unhide HRd)
          clear h6 HB HRf HRt HRa HRb HRd  
          have HB := hide hbB
          have HRf := hide rf
          have HRt := hide rt
          have HRa := hide ra
          have HRb := hide rb
          have HRd := hide rd
          have HRn := hide rn
          clear hbB rf rt ra rb rd rn
          have h24 : s.length = 24 := unhide HS (by first | trivial | rfl)
          by_cases hmx : ge = 1073741824
          · have hE : Hid (E = 153) := hide (by rw [unhide HE2]; simp [hmx])
            have dx : (ge == 1073741824) = true := by simpa using hmx
            clear HE2 hmx
            go_wp2_with (first | (refine wp_stA inf24 rfl (.tmp 10) (.tmp 63) rfl (w.heap.size + 2) (by rfl) #[I 0, S [], S [], .slice none 0 0, I 0, I 0, I 0, I 0, I 0, I 0, I 0, I 0, I 0, I 0] (by rfl) #[I 0, S [], S [], .slice none 0 0, I 0, I 0, I 0, I 0, I 0, I 0, I 0, I 0, I 0, I 0] rfl rfl (unhide HRa) (by simp [Value.oneCell']) ?_; generalize hZ : W6.setRow (w.heap.size + 2) #[I 0, S [], S [], .slice none 0 0, I 0, I 0, I 0, I 0, I 0, I 0, I 0, I 0, I 0, I 0] = Z1; have HZ1 := hide hZ; clear hZ) | (refine wp_stA inf26 rfl (.tmp 11) (.tmp 64) rfl (w.heap.size + 3) (by rfl) #[I 0, I 0, I 0, S [], I 0, .bool false, I 0, I 0, S []] (by rfl) #[I 0, I 0, I 0, S [], I 0, .bool false, I 0, I 0, S []] rfl rfl (by rw [← unhide HZ1]; exact row_set (unhide HRb) (by omega)) (by simp [Value.oneCell']) ?_; generalize hZ : Z1.setRow (w.heap.size + 3) #[I 0, I 0, I 0, S [], I 0, .bool false, I 0, I 0, S []] = Z2; have HZ2 := hide hZ; clear hZ) | (refine wp_stA inf26 rfl (.tmp 12) (.tmp 65) rfl (w.heap.size + 4) (by rfl) #[I 0, I 0, I 0, S [], I 0, .bool false, I 0, I 0, S []] (by rfl) #[I 0, I 0, I 0, S [], I 0, .bool false, I 0, I 0, S []] rfl rfl (by rw [← unhide HZ2, ← unhide HZ1]; exact row_set (row_set (unhide HRd) (by omega)) (by omega)) (by simp [Value.oneCell']) ?_; generalize hZ : Z2.setRow (w.heap.size + 4) #[I 0, I 0, I 0, S [], I 0, .bool false, I 0, I 0, S []] = Z3; have HZ3 := hide hZ; clear hZ))
            refine out4c (T := 24) (n := 14) (U := 26) (m := 9) (p := 10) (p' := 11) (p2 := 12) (q := 13) (cs := #[I 0, S [], S [], .slice none 0 0, I 0, I 0, I 0, I 0, I 0, I 0, I 0, I 0, I 0, I 0]) (cs' := #[I 0, I 0, I 0, S [], I 0, .bool false, I 0, I 0, S []]) (cs2 := #[I 0, I 0, I 0, S [], I 0, .bool false, I 0, I 0, S []]) (fun _ => by kernel_rfl) (fun _ => by kernel_rfl) (fun _ => by kernel_rfl) (fun _ => by kernel_rfl) (Z := w.heap.size + 2) (Z' := w.heap.size + 3) (Z2 := w.heap.size + 4) (by rfl) (by rfl) (by rfl) (by rfl) (by rfl) (by rfl) (by rw [← unhide HZ3, ← unhide HZ2, ← unhide HZ1]; exact row_set (row_set (setRow_row (unhide HRa)) (by omega)) (by omega)) (by rfl) (by rw [← unhide HZ3, ← unhide HZ2, ← unhide HZ1]; exact row_set (setRow_row (row_set (unhide HRb) (by omega))) (by omega)) (by rfl) (by rw [← unhide HZ3, ← unhide HZ2, ← unhide HZ1]; exact setRow_row (row_set (row_set (unhide HRd) (by omega)) (by omega))) (by rfl) ?_
            rw [unhide hE]
            exact ⟨rfl, by rw [← unhide HZ3, ← unhide HZ2, ← unhide HZ1]; exact bel_set (bel_set (bel_set (unhide HB) _ _ (by omega) (unhide HB).size) _ _ (by omega) (by simpa using (unhide HB).size)) _ _ (by omega) (by simpa using (unhide HB).size)⟩
          · have hE : Hid (E = 0) := hide (by rw [unhide HE2]; simp [hmx])
            have dx : (ge == 1073741824) = false := by simpa using hmx
            clear HE2 hmx
            go_upto_region 12 with (first | (refine wp_stC (T := 4) (fun _ => by kernel_rfl) rfl (.tmp 70) (.const (.bool true)) rfl (w.heap.size + 1) 5 (by rfl) (.bool true) (by rfl) rfl rfl #[I ti, I fa, I tg, S ha, I mi, .bool sp, I at9, I ne, S se] 26 (unhide HRt) (by simp) #[I ti, I fa, I tg, S ha, I mi, .bool true, I at9, I ne, S se] rfl ?_; generalize hY : W6.setRow (w.heap.size + 1) #[I ti, I fa, I tg, S ha, I mi, .bool true, I at9, I ne, S se] = Y1; have HY1 := hide hY; clear hY) | (refine wp_stC (T := 3) (fun _ => by kernel_rfl) rfl (.tmp 71) (.tmp 67) rfl (w.heap.size + 1) 6 (by rfl) (I tm) (by rfl) rfl rfl #[I ti, I fa, I tg, S ha, I mi, .bool true, I at9, I ne, S se] 26 (by rw [← unhide HY1]; exact setRow_row (unhide HRt)) (by simp) #[I ti, I fa, I tg, S ha, I mi, .bool true, I tm, I ne, S se] rfl ?_; generalize hY : Y1.setRow (w.heap.size + 1) #[I ti, I fa, I tg, S ha, I mi, .bool true, I tm, I ne, S se] = Y2; have HY2 := hide hY; clear hY) | (refine wp_stC (T := 3) (fun _ => by kernel_rfl) rfl (.tmp 72) (.tmp 68) rfl (w.heap.size + 1) 7 (by rfl) (I nx) (by rfl) rfl rfl #[I ti, I fa, I tg, S ha, I mi, .bool true, I tm, I ne, S se] 26 (by rw [← unhide HY2, ← unhide HY1]; exact setRow_row (setRow_row (unhide HRt))) (by simp) #[I ti, I fa, I tg, S ha, I mi, .bool true, I tm, I nx, S se] rfl ?_; generalize hY : Y2.setRow (w.heap.size + 1) #[I ti, I fa, I tg, S ha, I mi, .bool true, I tm, I nx, S se] = Y3; have HY3 := hide hY; clear hY) | (refine wp_stC (T := 9) (fun _ => by kernel_rfl) rfl (.tmp 73) (.tmp 69) rfl (w.heap.size + 1) 8 (by rfl) (S s) (by rfl) rfl rfl #[I ti, I fa, I tg, S ha, I mi, .bool true, I tm, I nx, S se] 26 (by rw [← unhide HY3, ← unhide HY2, ← unhide HY1]; exact setRow_row (setRow_row (setRow_row (unhide HRt)))) (by simp) #[I ti, I fa, I tg, S ha, I mi, .bool true, I tm, I nx, S s] rfl ?_; generalize hY : Y3.setRow (w.heap.size + 1) #[I ti, I fa, I tg, S ha, I mi, .bool true, I tm, I nx, S s] = Y4; have HY4 := hide hY; clear hY))
            have rt : Y4.heap[w.heap.size + 1]? = some (.cells #[I ti, I fa, I tg, S ha, I mi, .bool true, I tm, I nx, S s] 26 (0, 0)) := by rw [← unhide HY4, ← unhide HY3, ← unhide HY2, ← unhide HY1]; exact setRow_row (setRow_row (setRow_row (setRow_row (unhide HRt))))
            have hsz9 := unhide HSZ
            have rf : Y4.heap[w.heap.size]? = some (.cells #[I id, S cl, S su, .slice va sc.length vc, I cr, I tm, I idl, I ab, I gr, I (ge + 1), I nx, I st, I en, I co] 24 (0, 0)) := by rw [← unhide HY4, ← unhide HY3, ← unhide HY2, ← unhide HY1]; exact row_set (row_set (row_set (row_set (unhide HRf) (by omega)) (by omega)) (by omega)) (by omega)
            have ra : Y4.heap[w.heap.size + 2]? = some (.cells #[I 0, S [], S [], .slice none 0 0, I 0, I 0, I 0, I 0, I 0, I 0, I 0, I 0, I 0, I 0] 24 (0, 0)) := by rw [← unhide HY4, ← unhide HY3, ← unhide HY2, ← unhide HY1]; exact row_set (row_set (row_set (row_set (unhide HRa) (by omega)) (by omega)) (by omega)) (by omega)
            have rb : Y4.heap[w.heap.size + 3]? = some (.cells #[I 0, I 0, I 0, S [], I 0, .bool false, I 0, I 0, S []] 26 (0, 0)) := by rw [← unhide HY4, ← unhide HY3, ← unhide HY2, ← unhide HY1]; exact row_set (row_set (row_set (row_set (unhide HRb) (by omega)) (by omega)) (by omega)) (by omega)
            have rd : Y4.heap[w.heap.size + 4]? = some (.cells #[I 0, I 0, I 0, S [], I 0, .bool false, I 0, I 0, S []] 26 (0, 0)) := by rw [← unhide HY4, ← unhide HY3, ← unhide HY2, ← unhide HY1]; exact row_set (row_set (row_set (row_set (unhide HRd) (by omega)) (by omega)) (by omega)) (by omega)
            have rn : Y4.heap[w5.heap.size]? = some (.cells #[I nx, I id, I (ge + 1), S (hh), I tm, .bool false, I 0, I 0, S []] 26 (0, 0)) := by rw [← unhide HY4, ← unhide HY3, ← unhide HY2, ← unhide HY1]; exact row_set (row_set (row_set (row_set (unhide HRn) (by omega)) (by omega)) (by omega)) (by omega)
            have hb : Below w.heap.size w Y4 := by rw [← unhide HY4, ← unhide HY3, ← unhide HY2, ← unhide HY1]; exact bel_set (bel_set (bel_set (bel_set (unhide HB) _ _ (by omega) (unhide HB).size) _ _ (by omega) (by simpa using (unhide HB).size)) _ _ (by omega) (by simpa using (unhide HB).size)) _ _ (by omega) (by simpa using (unhide HB).size)
            clear HB HRf HRt HRa HRb HRd HRn HY1 HY2 HY3 HY4 hsz9
            clear Y1 Y2 Y3
            generalize Y4 = W7 at *
            have hM : w.heap.size + 4 < W7.heap.size := lt_of_row rd
            have hD : w.heap.size + 4 < w5.heap.size := unhide HSZ
            refine region_tab rot12T [(5, ptr w.heap.size), (6, ptr (w.heap.size + 1)), (15, ptr w5.heap.size), (10, ptr (w.heap.size + 2)), (11, ptr (w.heap.size + 3)), (12, ptr (w.heap.size + 4))] 79 [8] (rot12V #[I id, S cl, S su, .slice va sc.length vc, I cr, I tm, I idl, I ab, I gr, I (ge + 1), I nx, I st, I en, I co] (fun c => #[I id, S cl, S su, c, I cr, I tm, I idl, I ab, I gr, I (ge + 1), I nx, I st, I en, I co]) #[I ti, I fa, I tg, S ha, I mi, .bool true, I tm, I nx, S s] #[I nx, I id, I (ge + 1), S (hh), I tm, .bool false, I 0, I 0, S []]) rfl (by rfl) (by rfl) rfl (fun c w => by kernel_rfl) _ W7 (Nat.le_of_ble_eq_true rfl) rfl (WR12 w w.heap.size w5.heap.size W7.heap.size #[I id, S cl, S su, .slice va sc.length vc, I cr, I tm, I idl, I ab, I gr, I (ge + 1), I nx, I st, I en, I co] (fun c => #[I id, S cl, S su, c, I cr, I tm, I idl, I ab, I gr, I (ge + 1), I nx, I st, I en, I co]) #[I ti, I fa, I tg, S ha, I mi, .bool true, I tm, I nx, S s] #[I nx, I id, I (ge + 1), S (hh), I tm, .bool false, I 0, I 0, S []] #[I 0, S [], S [], .slice none 0 0, I 0, I 0, I 0, I 0, I 0, I 0, I 0, I 0, I 0, I 0] #[I 0, I 0, I 0, S [], I 0, .bool false, I 0, I 0, S []] sc) ⟨undef, ⟨hb.drew, rf, rt, rn, ra, rb, rd, (fun e => by cases e), Nat.le_refl _, (fun e => by cases e)⟩⟩ (fun i hi c L W hW => hW.pure i (by intro e; subst e; simp at hi) (by intro e; subst e; simp at hi) (by intro e; subst e; simp at hi) (by intro e; subst e; simp at hi)) ?spc ?_
            case spc =>
              intro i hi hp c1 L W hW hL hd
              rcases (by simp [rot12T] at hi hp; omega : i = 0 ∨ i = 1 ∨ i = 2 ∨ i = 3 ∨ i = 4 ∨ i = 5 ∨ i = 6 ∨ i = 7) with rfl | rfl | rfl | rfl | rfl | rfl | rfl | rfl
              · have f1 : (Instr.loadAt 24 (ptr w.heap.size)).run Tryz.prog W = .ok (.agg #[I id, S cl, S su, .slice va sc.length vc, I cr, I tm, I idl, I ab, I gr, I (ge + 1), I nx, I st, I en, I co]) W := s_ldr (T := 24) (n := 14) (fun _ => by kernel_rfl) (fun _ => by kernel_rfl) hW.rf (#[I id, S cl, S su, .slice va sc.length vc, I cr, I tm, I idl, I ab, I gr, I (ge + 1), I nx, I st, I en, I co]).toList rfl rfl
                exact ⟨f1, hW.pure 0 (by decide) (by decide) (by decide) (by decide)⟩
              · have h5 : L 5 = false := by cases q : L 5 with | false => rfl | true => rw [hW.ord q] at hL; cases hL
                refine ⟨⟨_, _, Tryz.func43, by kernel_rfl, rfl⟩, (unhide XO W hW.be (unhide HS1) (unhide HS2) (unhide HS3)).mono fun e w' q => ?_⟩
                obtain ⟨a, cap, e1, e2, e3⟩ := q
                have h2 := hW.call e3
                exact ⟨.slice a sc.length cap, fun j hj => rot12V_ne (by intro e; subst e; rw [hL] at hj; cases hj), e1, h2.own1 h5 e2 hW.sz⟩
              · have f1 : (Instr.loadAt 26 (ptr (w.heap.size + 1))).run Tryz.prog W = .ok (.agg #[I ti, I fa, I tg, S ha, I mi, .bool true, I tm, I nx, S s]) W := s_ldr (T := 26) (n := 9) (fun _ => by kernel_rfl) (fun _ => by kernel_rfl) hW.rt (#[I ti, I fa, I tg, S ha, I mi, .bool true, I tm, I nx, S s]).toList rfl rfl
                exact ⟨f1, hW.pure 2 (by decide) (by decide) (by decide) (by decide)⟩
              · exact ⟨⟨_, _, Tryz.func44, by kernel_rfl, rfl⟩, (unhide XT W (unhide HS4) (by omega)).mono fun e w' q => ⟨c1, fun _ _ => rfl, q.1, (hW.call q.2).pure 3 (by decide) (by decide) (by decide) (by decide)⟩⟩
              · have f1 : (Instr.loadAt 26 (ptr w5.heap.size)).run Tryz.prog W = .ok (.agg #[I nx, I id, I (ge + 1), S (hh), I tm, .bool false, I 0, I 0, S []]) W := s_ldr (T := 26) (n := 9) (fun _ => by kernel_rfl) (fun _ => by kernel_rfl) hW.rd (#[I nx, I id, I (ge + 1), S (hh), I tm, .bool false, I 0, I 0, S []]).toList rfl rfl
                exact ⟨f1, hW.pure 4 (by decide) (by decide) (by decide) (by decide)⟩
              · have hr := hW.r2
                rw [hL] at hr
                have h1 : L 1 = true := hd 1 (by rfl)
                have f1 : (Instr.storeAt 24 (ptr (w.heap.size + 2)) (.agg #[I id, S cl, S su, c1, I cr, I tm, I idl, I ab, I gr, I (ge + 1), I nx, I st, I en, I co])).run Tryz.prog W = .ok () (W.setRow (w.heap.size + 2) #[I id, S cl, S su, c1, I cr, I tm, I idl, I ab, I gr, I (ge + 1), I nx, I st, I en, I co]) := by
                  obtain ⟨a, cap, rfl⟩ := (hW.own h1).form
                  exact st_all (T := 24) (n := 14) (fun _ => by kernel_rfl) (cs := #[I 0, S [], S [], .slice none 0 0, I 0, I 0, I 0, I 0, I 0, I 0, I 0, I 0, I 0, I 0]) hr rfl #[I id, S cl, S su, .slice a sc.length cap, I cr, I tm, I idl, I ab, I gr, I (ge + 1), I nx, I st, I en, I co] rfl (by simp [Value.oneCell'])
                exact ⟨rfl, _, f1, ⟨bel_set hW.be _ _ (by omega) (by have := hW.sz; omega), row_set hW.rf (by omega), row_set hW.rt (by omega), row_set hW.rd (by omega), by rw [upd_eq]; exact setRow_row hr, by rw [upd_ne (by decide)]; exact row_set hW.r3 (by omega), by rw [upd_ne (by decide)]; exact row_set hW.r4 (by omega), fun e => own_set (hW.own (by rw [upd_ne (by decide)] at e; exact e)) _ _ (by omega), by simpa using hW.sz, fun _ => upd_of h1⟩⟩
              · have hr := hW.r3
                rw [hL] at hr
                have f1 : (Instr.storeAt 26 (ptr (w.heap.size + 3)) (.agg #[I ti, I fa, I tg, S ha, I mi, .bool true, I tm, I nx, S s])).run Tryz.prog W = .ok () (W.setRow (w.heap.size + 3) #[I ti, I fa, I tg, S ha, I mi, .bool true, I tm, I nx, S s]) := st_all (T := 26) (n := 9) (fun _ => by kernel_rfl) (cs := #[I 0, I 0, I 0, S [], I 0, .bool false, I 0, I 0, S []]) hr rfl #[I ti, I fa, I tg, S ha, I mi, .bool true, I tm, I nx, S s] rfl (by simp [Value.oneCell'])
                exact ⟨rfl, _, f1, ⟨bel_set hW.be _ _ (by omega) (by have := hW.sz; omega), row_set hW.rf (by omega), row_set hW.rt (by omega), row_set hW.rd (by omega), by rw [upd_ne (by decide)]; exact row_set hW.r2 (by omega), by rw [upd_eq]; exact setRow_row hr, by rw [upd_ne (by decide)]; exact row_set hW.r4 (by omega), fun e => own_set (hW.own (by rw [upd_ne (by decide)] at e; exact e)) _ _ (by omega), by simpa using hW.sz, fun e => by rw [upd_ne (by decide)] at e; exact upd_of (hW.ord e)⟩⟩
              · have hr := hW.r4
                rw [hL] at hr
                have f1 : (Instr.storeAt 26 (ptr (w.heap.size + 4)) (.agg #[I nx, I id, I (ge + 1), S (hh), I tm, .bool false, I 0, I 0, S []])).run Tryz.prog W = .ok () (W.setRow (w.heap.size + 4) #[I nx, I id, I (ge + 1), S (hh), I tm, .bool false, I 0, I 0, S []]) := st_all (T := 26) (n := 9) (fun _ => by kernel_rfl) (cs := #[I 0, I 0, I 0, S [], I 0, .bool false, I 0, I 0, S []]) hr rfl #[I nx, I id, I (ge + 1), S (hh), I tm, .bool false, I 0, I 0, S []] rfl (by simp [Value.oneCell'])
                exact ⟨rfl, _, f1, ⟨bel_set hW.be _ _ (by omega) (by have := hW.sz; omega), row_set hW.rf (by omega), row_set hW.rt (by omega), row_set hW.rd (by omega), by rw [upd_ne (by decide)]; exact row_set hW.r2 (by omega), by rw [upd_ne (by decide)]; exact row_set hW.r3 (by omega), by rw [upd_eq]; exact setRow_row hr, fun e => own_set (hW.own (by rw [upd_ne (by decide)] at e; exact e)) _ _ (by omega), by simpa using hW.sz, fun e => by rw [upd_ne (by decide)] at e; exact upd_of (hW.ord e)⟩⟩
            intro c1 L W hall hW
            simp only [frmL, rot12T, rot12V, Act.put, List.setIfInBounds_toArray, List.set_cons_succ, List.set_cons_zero]
            have hown := hW.own (hall 1 (by decide))
            have r2 := hW.r2
            rw [hall 5 (by decide)] at r2
            have r3 := hW.r3
            rw [hall 6 (by decide)] at r3
            have r4 := hW.r4
            rw [hall 7 (by decide)] at r4
            have HBE := hide hW.be
            obtain ⟨a, cap, rfl⟩ := hown.form
            have HO := hide hown
            have H2 := hide r2
            have H3 := hide r3
            have H4 := hide r4
            have HMM := hide hM
            clear hW hall hown r2 r3 r4 hb rf rt ra rb rd rn XO XT HS1 HS2 HS3 HS4 HSZ hM hD HS
            go_wp2
            refine out4c (T := 24) (n := 14) (U := 26) (m := 9) (p := 10) (p' := 11) (p2 := 12) (q := 13) (cs := #[I id, S cl, S su, .slice a sc.length cap, I cr, I tm, I idl, I ab, I gr, I (ge + 1), I nx, I st, I en, I co]) (cs' := #[I ti, I fa, I tg, S ha, I mi, .bool true, I tm, I nx, S s]) (cs2 := #[I nx, I id, I (ge + 1), S (hh), I tm, .bool false, I 0, I 0, S []]) (fun _ => by kernel_rfl) (fun _ => by kernel_rfl) (fun _ => by kernel_rfl) (fun _ => by kernel_rfl) (Z := w.heap.size + 2) (Z' := w.heap.size + 3) (Z2 := w.heap.size + 4) (by rfl) (by rfl) (by rfl) (by rfl) (by rfl) (by rfl) (unhide H2) (by rfl) (unhide H3) (by rfl) (unhide H4) (by rfl) ?_
            rw [unhide hE]
            exact ⟨a, cap, rfl, (unhide HO).below (Below.refl _ _) (by have := unhide HMM; omega), unhide HBE⟩
  · have dj : (J != 1) = true := by simpa using hj
    have hE : Hid (E = 1) := hide (by rw [unhide HE]; simp [hj])
    clear HE HJ1 hj
    go_wp2_with (first | (refine wp_stA inf24 rfl (.tmp 10) (.tmp 36) rfl (w.heap.size + 2) (by rfl) #[I 0, S [], S [], .slice none 0 0, I 0, I 0, I 0, I 0, I 0, I 0, I 0, I 0, I 0, I 0] (by rfl) #[I 0, S [], S [], .slice none 0 0, I 0, I 0, I 0, I 0, I 0, I 0, I 0, I 0, I 0, I 0] rfl rfl (unhide HRa) (by simp [Value.oneCell']) ?_; generalize hZ : w3.setRow (w.heap.size + 2) #[I 0, S [], S [], .slice none 0 0, I 0, I 0, I 0, I 0, I 0, I 0, I 0, I 0, I 0, I 0] = Z1; have HZ1 := hide hZ; clear hZ) | (refine wp_stA inf26 rfl (.tmp 11) (.tmp 37) rfl (w.heap.size + 3) (by rfl) #[I 0, I 0, I 0, S [], I 0, .bool false, I 0, I 0, S []] (by rfl) #[I 0, I 0, I 0, S [], I 0, .bool false, I 0, I 0, S []] rfl rfl (by rw [← unhide HZ1]; exact row_set (unhide HRb) (by omega)) (by simp [Value.oneCell']) ?_; generalize hZ : Z1.setRow (w.heap.size + 3) #[I 0, I 0, I 0, S [], I 0, .bool false, I 0, I 0, S []] = Z2; have HZ2 := hide hZ; clear hZ) | (refine wp_stA inf26 rfl (.tmp 12) (.tmp 38) rfl (w.heap.size + 4) (by rfl) #[I 0, I 0, I 0, S [], I 0, .bool false, I 0, I 0, S []] (by rfl) #[I 0, I 0, I 0, S [], I 0, .bool false, I 0, I 0, S []] rfl rfl (by rw [← unhide HZ2, ← unhide HZ1]; exact row_set (row_set (unhide HRd) (by omega)) (by omega)) (by simp [Value.oneCell']) ?_; generalize hZ : Z2.setRow (w.heap.size + 4) #[I 0, I 0, I 0, S [], I 0, .bool false, I 0, I 0, S []] = Z3; have HZ3 := hide hZ; clear hZ))
    refine out4c (T := 24) (n := 14) (U := 26) (m := 9) (p := 10) (p' := 11) (p2 := 12) (q := 13) (cs := #[I 0, S [], S [], .slice none 0 0, I 0, I 0, I 0, I 0, I 0, I 0, I 0, I 0, I 0, I 0]) (cs' := #[I 0, I 0, I 0, S [], I 0, .bool false, I 0, I 0, S []]) (cs2 := #[I 0, I 0, I 0, S [], I 0, .bool false, I 0, I 0, S []]) (fun _ => by kernel_rfl) (fun _ => by kernel_rfl) (fun _ => by kernel_rfl) (fun _ => by kernel_rfl) (Z := w.heap.size + 2) (Z' := w.heap.size + 3) (Z2 := w.heap.size + 4) (by rfl) (by rfl) (by rfl) (by rfl) (by rfl) (by rfl) (by rw [← unhide HZ3, ← unhide HZ2, ← unhide HZ1]; exact row_set (row_set (setRow_row (unhide HRa)) (by omega)) (by omega)) (by rfl) (by rw [← unhide HZ3, ← unhide HZ2, ← unhide HZ1]; exact row_set (setRow_row (row_set (unhide HRb) (by omega))) (by omega)) (by rfl) (by rw [← unhide HZ3, ← unhide HZ2, ← unhide HZ1]; exact setRow_row (row_set (row_set (unhide HRd) (by omega)) (by omega))) (by rfl) ?_
    rw [unhide hE]
    exact ⟨rfl, by rw [← unhide HZ3, ← unhide HZ2, ← unhide HZ1]; exact bel_set (bel_set (bel_set (unhide HB) _ _ (by omega) (unhide HB).size) _ _ (by omega) (by simpa using (unhide HB).size)) _ _ (by omega) (by simpa using (unhide HB).size)⟩
end Go.Proofs.YtmjaobddgaglhaaGreatDoor
/- awake. -/
namespace Go.Proofs.YtmjaobddgaglhaaGreatDoor
open Go.RowKit
set_option maxHeartbeats 4000000
set_option maxRecDepth 8000
abbrev tRead : Bs := [114, 101, 97, 100]
abbrev tApp : Bs := [97, 112, 112]
abbrev tAnn : Bs := [97, 110, 110]
abbrev tSec : Bs := [97, 98, 99, 100, 101, 102, 103, 104, 105, 106, 107, 108, 109, 110, 111, 112, 113, 114, 115, 116, 117, 118, 119, 120]
theorem lns_read : Lns [tRead] := fun j => by
  match j with
  | 0 => decide
  | (k + 1) => simp
theorem sts_one {W : World} {b : Nat} {x : Bs} (h : W.heap[b]? = some (.cells #[S x] 9 (0, 0))) : Sts W (some ⟨b, 0, none⟩) 1 [x] :=
  ⟨rfl, fun _ => ⟨b, 0, rfl, fun j hj => by
    have e : j = 0 := by omega
    subst e
    exact cellr h rfl⟩⟩
theorem new_row2 {w W : World} {v1 z1 v2 z2 : Array Value} {t1 t2 : TypeId} (h : (((w.alloc (.cells z1 t1)).alloc (.cells z2 t2)).setRow w.heap.size v1).setRow (w.heap.size + 1) v2 = W) : Below w.heap.size w W ∧ W.heap[w.heap.size]? = some (.cells v1 t1 (0, 0)) ∧ W.heap[w.heap.size + 1]? = some (.cells v2 t2 (0, 0)) := by
  subst h
  have r1 : ((w.alloc (.cells z1 t1)).alloc (.cells z2 t2)).heap[w.heap.size]? = some (.cells z1 t1 (0, 0)) := al_old _ _ _ (by simp) (al_new _ _ _ rfl)
  have r2 : ((w.alloc (.cells z1 t1)).alloc (.cells z2 t2)).heap[w.heap.size + 1]? = some (.cells z2 t2 (0, 0)) := al_new _ _ _ (by simp)
  exact ⟨bel_set (bel_set (((Below.refl _ _).alloc (Nat.le_refl _) _).alloc (by simp) _) _ _ (Nat.le_refl _) (by simp <;> omega)) _ _ (by omega) (by simp <;> omega), row_set (setRow_row r1) (by omega), setRow_row (row_set r2 (by omega))⟩
theorem new_row3 {w W : World} {v1 z1 v2 z2 v3 z3 : Array Value} {t1 t2 t3 : TypeId} (h : ((((((w.alloc (.cells z1 t1)).alloc (.cells z2 t2)).alloc (.cells z3 t3))).setRow w.heap.size v1).setRow (w.heap.size + 1) v2).setRow (w.heap.size + 2) v3 = W) : Below w.heap.size w W ∧ W.heap[w.heap.size]? = some (.cells v1 t1 (0, 0)) ∧ W.heap[w.heap.size + 1]? = some (.cells v2 t2 (0, 0)) ∧ W.heap[w.heap.size + 2]? = some (.cells v3 t3 (0, 0)) := by
  subst h
  have r1 : (((w.alloc (.cells z1 t1)).alloc (.cells z2 t2)).alloc (.cells z3 t3)).heap[w.heap.size]? = some (.cells z1 t1 (0, 0)) := al_old _ _ _ (by simp <;> omega) (al_old _ _ _ (by simp) (al_new _ _ _ rfl))
  have r2 : (((w.alloc (.cells z1 t1)).alloc (.cells z2 t2)).alloc (.cells z3 t3)).heap[w.heap.size + 1]? = some (.cells z2 t2 (0, 0)) := al_old _ _ _ (by simp) (al_new _ _ _ (by simp))
  have r3 : (((w.alloc (.cells z1 t1)).alloc (.cells z2 t2)).alloc (.cells z3 t3)).heap[w.heap.size + 2]? = some (.cells z3 t3 (0, 0)) := al_new _ _ _ (by simp)
  exact ⟨bel_set (bel_set (bel_set ((((Below.refl _ _).alloc (Nat.le_refl _) _).alloc (by simp) _).alloc (by simp <;> omega) _) _ _ (Nat.le_refl _) (by simp <;> omega)) _ _ (by omega) (by simp <;> omega)) _ _ (by omega) (by simp <;> omega), row_set (row_set (setRow_row r1) (by omega)) (by omega), row_set (setRow_row (row_set r2 (by omega))) (by omega), setRow_row (row_set (row_set r3 (by omega)) (by omega))⟩
theorem inf48 : (Tryz.prog.info? 48).map (·.size) = some 11 := by kernel_rfl
theorem app_any (i a g : Int) (w : World) : Calls Tryz.prog 28 #[I i, I a, I g] w fun e w' => ∃ b, e = .returned (.agg #[S tApp, .bool true, .bool false, S [], S [], I 0, .slice (some ⟨b, 0, none⟩) 1 1, I i, I a, I g, I 9]) ∧ w'.heap[b]? = some (.cells #[S tRead] 9 (0, 0)) ∧ Below w.heap.size w w' := by
  have hb : Below w.heap.size w (w.alloc (.cells #[S [], .bool false, .bool false, S [], S [], I 0, .slice none 0 0, I 0, I 0, I 0, I 0] 48)) := ((Below.refl _ w).alloc (by simp <;> omega) _)
  have rc : (w.alloc (.cells #[S [], .bool false, .bool false, S [], S [], I 0, .slice none 0 0, I 0, I 0, I 0, I 0] 48)).heap[w.heap.size]? = some (.cells #[S [], .bool false, .bool false, S [], S [], I 0, .slice none 0 0, I 0, I 0, I 0, I 0] 48 (0, 0)) := al_new w (.cells #[S [], .bool false, .bool false, S [], S [], I 0, .slice none 0 0, I 0, I 0, I 0, I 0] 48) (w.heap.size) (by simp)
  generalize hW1 : (w.alloc (.cells #[S [], .bool false, .bool false, S [], S [], I 0, .slice none 0 0, I 0, I 0, I 0, I 0] 48)) = W1 at *
  have HB := hide hb
  have HRc := hide rc
  clear hb rc
  have hb2 : Below w.heap.size w (W1.alloc (.cells #[S tRead] 9)) := (unhide HB).alloc (unhide HB).size _
  have rs : (W1.alloc (.cells #[S tRead] 9)).heap[W1.heap.size]? = some (.cells #[S tRead] 9 (0, 0)) := heap_alloc_new _ _
  have rc2 : (W1.alloc (.cells #[S tRead] 9)).heap[w.heap.size]? = some (.cells #[S [], .bool false, .bool false, S [], S [], I 0, .slice none 0 0, I 0, I 0, I 0, I 0] 48 (0, 0)) := al_old _ _ _ (lt_of_row (unhide HRc)) (unhide HRc)
  have hlt := lt_of_row (unhide HRc)
  have HB2 := hide hb2
  have HS := hide rs
  have HC2 := hide rc2
  have HLT := hide hlt
  clear hb2 rs rc2 hlt
  go_enter Tryz.func28, Tryz.ntmps28
  go_wp2_with (refine wp_stA inf48 rfl (.tmp 6) (.tmp 11) rfl w.heap.size (by rfl) #[S tApp, .bool true, .bool false, S [], S [], I 0, .slice (some ⟨W1.heap.size, 0, none⟩) 1 1, I i, I a, I g, I 9] (by rfl) #[S [], .bool false, .bool false, S [], S [], I 0, .slice none 0 0, I 0, I 0, I 0, I 0] rfl rfl (unhide HC2) (by simp [Value.oneCell']) ?_)
  refine out1c (T := 48) (n := 11) (p := 6) (cs := #[S tApp, .bool true, .bool false, S [], S [], I 0, .slice (some ⟨W1.heap.size, 0, none⟩) 1 1, I i, I a, I g, I 9]) (fun _ => by kernel_rfl) (fun _ => by kernel_rfl) (Z := w.heap.size) (by rfl) (by rfl) (by rfl) (setRow_row (unhide HC2)) (by rfl) ?_
  exact ⟨W1.heap.size, rfl, row_set (unhide HS) (by have := unhide HLT; omega), bel_set (unhide HB2) _ _ (Nat.le_refl _) (unhide HB2).size⟩
theorem j1 (ha : Bs) (h : ha.length = 32) : jdg 1 tApp tAnn [tRead] 100 100 50 120 10 1 2 1 0 0 2 1 1 ha 100 false 0 0 [] 110 = 1 := by
  unfold jdg tokOK
  rw [h]
  decide +kernel
theorem j2 (ha : Bs) (h : ha.length = 32) : jdg 1 tApp tAnn [tRead] 100 110 50 120 10 2 3 1 0 0 2 1 1 ha 100 true 110 3 tSec 119 = 2 := by
  unfold jdg tokOK
  rw [h]
  decide +kernel
theorem j3 (ha : Bs) (h : ha.length = 32) : jdg 1 tApp tAnn [tRead] 100 110 50 120 10 2 3 1 0 0 2 1 1 ha 100 true 110 3 tSec 120 = 3 := by
  unfold jdg tokOK
  rw [h]
  decide +kernel
theorem j4 (hb9 : Bs) (h : hb9.length = 32) : jdg 1 tApp tAnn [tRead] 100 110 50 120 10 2 3 1 0 0 3 1 2 hb9 110 false 0 0 [] 160 = 4 := by
  unfold jdg tokOK
  rw [h]
  decide +kernel
theorem nb_four (n : Nat) : (Sha.nb n 4).length = 4 := by simp [Sha.nb]
theorem sum_32 (s : Bs) : (Sha.sum s).length = 32 := by
  unfold Sha.sum Sha.sumH Sha.dig Sha.St.l
  simp [nb_four]
theorem okA : begOK 1 2 tApp true [] [] 0 [tRead] 50 120 10 9 tAnn [tRead] tSec (nr 100) = true := by decide +kernel
theorem okB : rotE 1 100 100 (nr 110) 1 3 tSec = 0 := by decide +kernel
theorem nrA : nr 100 = 100 := by decide
theorem nrB : nr 110 = 110 := by decide
theorem awake_any (w : World) : Calls Tryz.prog 6 #[] w fun e w' => e = .returned (.bool true) ∧ Below w.heap.size w w' := by
  have X1 := hide (fun W => app_any 50 120 10 W)
  have hha : (hsh 2 tSec).length = 32 := sum_32 _
  have hhb : (hsh 3 tSec).length = 32 := sum_32 _
  have X2 : Hid (∀ (W : World) (b c : Nat), W.heap[b]? = some (.cells #[S tRead] 9 (0, 0)) → W.heap[c]? = some (.cells #[S tRead] 9 (0, 0)) → Calls Tryz.prog 25 #[I 1, I 2, .agg #[S tApp, .bool true, .bool false, S [], S [], I 0, .slice (some ⟨b, 0, none⟩) 1 1, I 50, I 120, I 10, I 9], S tAnn, .slice (some ⟨c, 0, none⟩) 1 1, S tSec, I 100] W fun e w' => ∃ a1 k1, e = .returned (.tuple #[.agg #[I 1, S tApp, S tAnn, .slice a1 1 k1, I 100, I 100, I 50, I 120, I 10, I 1, I 2, I 1, I 0, I 0], .agg #[I 2, I 1, I 1, S (hsh 2 tSec), I 100, .bool false, I 0, I 0, S []], I 0]) ∧ OwnS W.heap.size w' (.slice a1 1 k1) [tRead] ∧ Below W.heap.size W w') := hide (fun W b c h1 h2 => by
    have q := begin_any 1 2 tApp true false [] [] 0 (some ⟨b, 0, none⟩) 1 [tRead] 50 120 10 9 tAnn (some ⟨c, 0, none⟩) 1 [tRead] tSec 100 W (by decide) (sts_one h1) (by decide) lns_read (by decide) (sts_one h2) (by decide) lns_read
    rw [okA, nrA] at q
    refine q.mono fun e w' h => ?_
    rw [OutB, if_pos rfl] at h
    exact h)
  generalize hsh 2 tSec = ha at *
  have X3 : Hid (∀ (W : World) (a1 : Option Addr) (k1 : Nat), Sts W a1 1 [tRead] → Calls Tryz.prog 8 #[.agg #[I 1, S tApp, S tAnn, .slice a1 1 k1, I 100, I 100, I 50, I 120, I 10, I 1, I 2, I 1, I 0, I 0], .agg #[I 2, I 1, I 1, S ha, I 100, .bool false, I 0, I 0, S []], I 110] W fun e w' => e = .returned (I 1) ∧ Below W.heap.size W w') := hide (fun W a1 k1 h => by
    have q := judge_any 1 tApp tAnn a1 k1 [tRead] 100 100 50 120 10 1 2 1 0 0 2 1 1 ha 100 false 0 0 [] 110 W (by decide) (by decide) h (by decide) lns_read
    rw [j1 _ hha] at q
    exact q)
  have X4 : Hid (∀ (W : World) (a1 : Option Addr) (k1 : Nat), Sts W a1 1 [tRead] → Calls Tryz.prog 14 #[.agg #[I 1, S tApp, S tAnn, .slice a1 1 k1, I 100, I 100, I 50, I 120, I 10, I 1, I 2, I 1, I 0, I 0], .agg #[I 2, I 1, I 1, S ha, I 100, .bool false, I 0, I 0, S []], I 3, S tSec, I 110] W fun e w' => ∃ a2 k2, e = .returned (.tuple #[.agg #[I 1, S tApp, S tAnn, .slice a2 1 k2, I 100, I 110, I 50, I 120, I 10, I 2, I 3, I 1, I 0, I 0], .agg #[I 2, I 1, I 1, S ha, I 100, .bool true, I 110, I 3, S tSec], .agg #[I 3, I 1, I 2, S (hsh 3 tSec), I 110, .bool false, I 0, I 0, S []], I 0]) ∧ OwnS W.heap.size w' (.slice a2 1 k2) [tRead] ∧ Below W.heap.size W w') := hide (fun W a1 k1 h => by
    have q := rotate_any 1 tApp tAnn a1 k1 [tRead] 100 100 50 120 10 1 2 1 0 0 2 1 1 ha 100 false 0 0 [] 3 tSec 110 W (by decide) (by decide) h (by decide) lns_read
    rw [j1 ha hha, okB, nrB] at q
    refine q.mono fun e w' h => ?_
    rw [OutR, if_pos rfl] at h
    exact h)
  generalize hsh 3 tSec = hb9 at *
  have X5 : Hid (∀ (W : World) (a2 : Option Addr) (k2 : Nat), Sts W a2 1 [tRead] → Calls Tryz.prog 8 #[.agg #[I 1, S tApp, S tAnn, .slice a2 1 k2, I 100, I 110, I 50, I 120, I 10, I 2, I 3, I 1, I 0, I 0], .agg #[I 2, I 1, I 1, S ha, I 100, .bool true, I 110, I 3, S tSec], I 119] W fun e w' => e = .returned (I 2) ∧ Below W.heap.size W w') := hide (fun W a2 k2 h => by
    have q := judge_any 1 tApp tAnn a2 k2 [tRead] 100 110 50 120 10 2 3 1 0 0 2 1 1 ha 100 true 110 3 tSec 119 W (by decide) (by decide) h (by decide) lns_read
    rw [j2 _ hha] at q
    exact q)
  have X6 : Hid (∀ (W : World) (a2 : Option Addr) (k2 : Nat), Sts W a2 1 [tRead] → Calls Tryz.prog 8 #[.agg #[I 1, S tApp, S tAnn, .slice a2 1 k2, I 100, I 110, I 50, I 120, I 10, I 2, I 3, I 1, I 0, I 0], .agg #[I 2, I 1, I 1, S ha, I 100, .bool true, I 110, I 3, S tSec], I 120] W fun e w' => e = .returned (I 3) ∧ Below W.heap.size W w') := hide (fun W a2 k2 h => by
    have q := judge_any 1 tApp tAnn a2 k2 [tRead] 100 110 50 120 10 2 3 1 0 0 2 1 1 ha 100 true 110 3 tSec 120 W (by decide) (by decide) h (by decide) lns_read
    rw [j3 _ hha] at q
    exact q)
  have X7 : Hid (∀ (W : World) (a2 : Option Addr) (k2 : Nat), Sts W a2 1 [tRead] → Calls Tryz.prog 8 #[.agg #[I 1, S tApp, S tAnn, .slice a2 1 k2, I 100, I 110, I 50, I 120, I 10, I 2, I 3, I 1, I 0, I 0], .agg #[I 3, I 1, I 2, S hb9, I 110, .bool false, I 0, I 0, S []], I 160] W fun e w' => e = .returned (I 4) ∧ Below W.heap.size W w') := hide (fun W a2 k2 h => by
    have q := judge_any 1 tApp tAnn a2 k2 [tRead] 100 110 50 120 10 2 3 1 0 0 3 1 2 hb9 110 false 0 0 [] 160 W (by decide) (by decide) h (by decide) lns_read
    rw [j4 _ hhb] at q
    exact q)
  clear hha hhb
  go_enter Tryz.func6, Tryz.ntmps6
  go_wp2_with fail
  refine (unhide X1 w).mono ?_
  rintro e w2 ⟨b, rfl, rb, h2⟩
  have hb2 := h2.alloc h2.size (.cells #[S tRead] 9)
  have rb2 := al_old w2 (.cells #[S tRead] 9) b (lt_of_row rb) rb
  have rc2 := heap_alloc_new w2 (.cells #[S tRead] 9)
  have HX := hide (unhide X2 _ b w2.heap.size rb2 rc2)
  have HB := hide hb2
  clear X1 X2 rb h2 hb2 rb2 rc2
  generalize hW3 : w2.alloc (.cells #[S tRead] 9) = W3 at *
  go_wp2_with fail
  refine (unhide HX).mono ?_
  rintro e w4 ⟨a1, k1, rfl, ho, h4⟩
  have HB4 := hide ((unhide HB).trans (h4.mono (unhide HB).size))
  have HS := hide ho.sts
  clear HX HB h4 ho hW3
  go_upto_region 2 with (first | (refine wp_stA inf24 rfl (.tmp 1) (.tmp 15) rfl w4.heap.size (by rfl) #[I 1, S tApp, S tAnn, .slice a1 1 k1, I 100, I 100, I 50, I 120, I 10, I 1, I 2, I 1, I 0, I 0] (by rfl) #[I 0, S [], S [], .slice none 0 0, I 0, I 0, I 0, I 0, I 0, I 0, I 0, I 0, I 0, I 0] rfl rfl (al_old _ _ _ (by simp) (al_new _ _ _ rfl)) (by simp [Value.oneCell']) ?_) | (refine wp_stA inf26 rfl (.tmp 2) (.tmp 16) rfl (w4.heap.size + 1) (by rfl) #[I 2, I 1, I 1, S ha, I 100, .bool false, I 0, I 0, S []] (by rfl) #[I 0, I 0, I 0, S [], I 0, .bool false, I 0, I 0, S []] rfl rfl (row_set (al_new _ _ _ (by simp)) (by omega)) (by simp [Value.oneCell']) ?_; generalize hW5 : (((w4.alloc (.cells #[I 0, S [], S [], .slice none 0 0, I 0, I 0, I 0, I 0, I 0, I 0, I 0, I 0, I 0, I 0] 24)).alloc (.cells #[I 0, I 0, I 0, S [], I 0, .bool false, I 0, I 0, S []] 26)).setRow w4.heap.size #[I 1, S tApp, S tAnn, .slice a1 1 k1, I 100, I 100, I 50, I 120, I 10, I 1, I 2, I 1, I 0, I 0]).setRow (w4.heap.size + 1) #[I 2, I 1, I 1, S ha, I 100, .bool false, I 0, I 0, S []] = W5))
  obtain ⟨h5, rf, rt⟩ := new_row2 hW5
  have hB5 := (unhide HB4).trans (h5.mono (unhide HB4).size)
  have HS5 := hide ((unhide HS).below h5)
  clear HB4 HS h5 hW5
  have cf_0 : W5.cell? ⟨w4.heap.size, 0, none⟩ = some (I 1) := cellr rf rfl
  have cf_1 : W5.cell? ⟨w4.heap.size, 1, none⟩ = some (S tApp) := cellr rf rfl
  have cf_2 : W5.cell? ⟨w4.heap.size, 2, none⟩ = some (S tAnn) := cellr rf rfl
  have cf_3 : W5.cell? ⟨w4.heap.size, 3, none⟩ = some (.slice a1 1 k1) := cellr rf rfl
  have cf_4 : W5.cell? ⟨w4.heap.size, 4, none⟩ = some (I 100) := cellr rf rfl
  have cf_5 : W5.cell? ⟨w4.heap.size, 5, none⟩ = some (I 100) := cellr rf rfl
  have cf_6 : W5.cell? ⟨w4.heap.size, 6, none⟩ = some (I 50) := cellr rf rfl
  have cf_7 : W5.cell? ⟨w4.heap.size, 7, none⟩ = some (I 120) := cellr rf rfl
  have cf_8 : W5.cell? ⟨w4.heap.size, 8, none⟩ = some (I 10) := cellr rf rfl
  have cf_9 : W5.cell? ⟨w4.heap.size, 9, none⟩ = some (I 1) := cellr rf rfl
  have cf_10 : W5.cell? ⟨w4.heap.size, 10, none⟩ = some (I 2) := cellr rf rfl
  have cf_11 : W5.cell? ⟨w4.heap.size, 11, none⟩ = some (I 1) := cellr rf rfl
  have cf_12 : W5.cell? ⟨w4.heap.size, 12, none⟩ = some (I 0) := cellr rf rfl
  have cf_13 : W5.cell? ⟨w4.heap.size, 13, none⟩ = some (I 0) := cellr rf rfl
  have ct_0 : W5.cell? ⟨w4.heap.size + 1, 0, none⟩ = some (I 2) := cellr rt rfl
  have ct_1 : W5.cell? ⟨w4.heap.size + 1, 1, none⟩ = some (I 1) := cellr rt rfl
  have ct_2 : W5.cell? ⟨w4.heap.size + 1, 2, none⟩ = some (I 1) := cellr rt rfl
  have ct_3 : W5.cell? ⟨w4.heap.size + 1, 3, none⟩ = some (S ha) := cellr rt rfl
  have ct_4 : W5.cell? ⟨w4.heap.size + 1, 4, none⟩ = some (I 100) := cellr rt rfl
  have ct_5 : W5.cell? ⟨w4.heap.size + 1, 5, none⟩ = some (.bool false) := cellr rt rfl
  have ct_6 : W5.cell? ⟨w4.heap.size + 1, 6, none⟩ = some (I 0) := cellr rt rfl
  have ct_7 : W5.cell? ⟨w4.heap.size + 1, 7, none⟩ = some (I 0) := cellr rt rfl
  have ct_8 : W5.cell? ⟨w4.heap.size + 1, 8, none⟩ = some (S []) := cellr rt rfl
  have HB := hide hB5
  have HRf := hide rf
  have HRt := hide rt
  clear hB5 rf rt
  go_wp2_with fail
  refine (unhide X3 W5 a1 k1 (unhide HS5)).mono ?_
  rintro e w6 ⟨rfl, h6⟩
  have HS6 := hide ((unhide HS5).below h6)
  clear X3 HS5
  have hbB := (unhide HB).trans (h6.mono (unhide HB).size)
  have rf := (h6.block _ (lt_of_row (unhide HRf))).trans (unhide HRf)
  have rt := (h6.block _ (lt_of_row (unhide HRt))).trans (unhide HRt)
  clear h6 HB HRf HRt cf_0 cf_1 cf_2 cf_3 cf_4 cf_5 cf_6 cf_7 cf_8 cf_9 cf_10 cf_11 cf_12 cf_13 ct_0 ct_1 ct_2 ct_3 ct_4 ct_5 ct_6 ct_7 ct_8 
  have cf_0 : w6.cell? ⟨w4.heap.size, 0, none⟩ = some (I 1) := cellr rf rfl
  have cf_1 : w6.cell? ⟨w4.heap.size, 1, none⟩ = some (S tApp) := cellr rf rfl
  have cf_2 : w6.cell? ⟨w4.heap.size, 2, none⟩ = some (S tAnn) := cellr rf rfl
  have cf_3 : w6.cell? ⟨w4.heap.size, 3, none⟩ = some (.slice a1 1 k1) := cellr rf rfl
  have cf_4 : w6.cell? ⟨w4.heap.size, 4, none⟩ = some (I 100) := cellr rf rfl
  have cf_5 : w6.cell? ⟨w4.heap.size, 5, none⟩ = some (I 100) := cellr rf rfl
  have cf_6 : w6.cell? ⟨w4.heap.size, 6, none⟩ = some (I 50) := cellr rf rfl
  have cf_7 : w6.cell? ⟨w4.heap.size, 7, none⟩ = some (I 120) := cellr rf rfl
  have cf_8 : w6.cell? ⟨w4.heap.size, 8, none⟩ = some (I 10) := cellr rf rfl
  have cf_9 : w6.cell? ⟨w4.heap.size, 9, none⟩ = some (I 1) := cellr rf rfl
  have cf_10 : w6.cell? ⟨w4.heap.size, 10, none⟩ = some (I 2) := cellr rf rfl
  have cf_11 : w6.cell? ⟨w4.heap.size, 11, none⟩ = some (I 1) := cellr rf rfl
  have cf_12 : w6.cell? ⟨w4.heap.size, 12, none⟩ = some (I 0) := cellr rf rfl
  have cf_13 : w6.cell? ⟨w4.heap.size, 13, none⟩ = some (I 0) := cellr rf rfl
  have ct_0 : w6.cell? ⟨w4.heap.size + 1, 0, none⟩ = some (I 2) := cellr rt rfl
  have ct_1 : w6.cell? ⟨w4.heap.size + 1, 1, none⟩ = some (I 1) := cellr rt rfl
  have ct_2 : w6.cell? ⟨w4.heap.size + 1, 2, none⟩ = some (I 1) := cellr rt rfl
  have ct_3 : w6.cell? ⟨w4.heap.size + 1, 3, none⟩ = some (S ha) := cellr rt rfl
  have ct_4 : w6.cell? ⟨w4.heap.size + 1, 4, none⟩ = some (I 100) := cellr rt rfl
  have ct_5 : w6.cell? ⟨w4.heap.size + 1, 5, none⟩ = some (.bool false) := cellr rt rfl
  have ct_6 : w6.cell? ⟨w4.heap.size + 1, 6, none⟩ = some (I 0) := cellr rt rfl
  have ct_7 : w6.cell? ⟨w4.heap.size + 1, 7, none⟩ = some (I 0) := cellr rt rfl
  have ct_8 : w6.cell? ⟨w4.heap.size + 1, 8, none⟩ = some (S []) := cellr rt rfl
  have HB := hide hbB
  have HRf := hide rf
  have HRt := hide rt
  clear hbB rf rt
  go_wp2_with fail
  refine (unhide X4 w6 a1 k1 (unhide HS6)).mono ?_
  rintro e w7 ⟨a2, k2, rfl, ho, h7⟩
  have HS7 := hide ho.sts
  clear X4 HS6 ho
  have hbB := (unhide HB).trans (h7.mono (unhide HB).size)
  have rf := (h7.block _ (lt_of_row (unhide HRf))).trans (unhide HRf)
  have rt := (h7.block _ (lt_of_row (unhide HRt))).trans (unhide HRt)
  clear h7 HB HRf HRt cf_0 cf_1 cf_2 cf_3 cf_4 cf_5 cf_6 cf_7 cf_8 cf_9 cf_10 cf_11 cf_12 cf_13 ct_0 ct_1 ct_2 ct_3 ct_4 ct_5 ct_6 ct_7 ct_8 
  have HB := hide hbB
  have HRf := hide rf
  have HRt := hide rt
  clear hbB rf rt
  go_upto_region 6 with (first | (refine wp_stA inf24 rfl (.tmp 5) (.tmp 48) rfl w7.heap.size (by rfl) #[I 1, S tApp, S tAnn, .slice a2 1 k2, I 100, I 110, I 50, I 120, I 10, I 2, I 3, I 1, I 0, I 0] (by rfl) #[I 0, S [], S [], .slice none 0 0, I 0, I 0, I 0, I 0, I 0, I 0, I 0, I 0, I 0, I 0] rfl rfl (al_old _ _ _ (by simp <;> omega) (al_old _ _ _ (by simp) (al_new _ _ _ rfl))) (by simp [Value.oneCell']) ?_; generalize hZ : (((w7.alloc (.cells #[I 0, S [], S [], .slice none 0 0, I 0, I 0, I 0, I 0, I 0, I 0, I 0, I 0, I 0, I 0] 24)).alloc (.cells #[I 0, I 0, I 0, S [], I 0, .bool false, I 0, I 0, S []] 26)).alloc (.cells #[I 0, I 0, I 0, S [], I 0, .bool false, I 0, I 0, S []] 26)).setRow w7.heap.size #[I 1, S tApp, S tAnn, .slice a2 1 k2, I 100, I 110, I 50, I 120, I 10, I 2, I 3, I 1, I 0, I 0] = Z1; have HZ1 := hide hZ; clear hZ) | (refine wp_stA inf26 rfl (.tmp 6) (.tmp 49) rfl (w7.heap.size + 1) (by rfl) #[I 2, I 1, I 1, S ha, I 100, .bool true, I 110, I 3, S tSec] (by rfl) #[I 0, I 0, I 0, S [], I 0, .bool false, I 0, I 0, S []] rfl rfl (by rw [← unhide HZ1]; exact row_set (al_old _ _ _ (by simp) (al_new _ _ _ (by simp))) (by omega)) (by simp [Value.oneCell']) ?_; generalize hZ : Z1.setRow (w7.heap.size + 1) #[I 2, I 1, I 1, S ha, I 100, .bool true, I 110, I 3, S tSec] = Z2; have HZ2 := hide hZ; clear hZ) | (refine wp_stA inf26 rfl (.tmp 7) (.tmp 50) rfl (w7.heap.size + 2) (by rfl) #[I 3, I 1, I 2, S hb9, I 110, .bool false, I 0, I 0, S []] (by rfl) #[I 0, I 0, I 0, S [], I 0, .bool false, I 0, I 0, S []] rfl rfl (by rw [← unhide HZ2, ← unhide HZ1]; exact row_set (row_set (al_new _ _ _ (by simp)) (by omega)) (by omega)) (by simp [Value.oneCell']) ?_; generalize hZ : Z2.setRow (w7.heap.size + 2) #[I 3, I 1, I 2, S hb9, I 110, .bool false, I 0, I 0, S []] = W8; have HZ3 := hide hZ; clear hZ))
  have hW8 := unhide HZ3
  rw [← unhide HZ2, ← unhide HZ1] at hW8
  clear HZ1 HZ2 HZ3
  obtain ⟨h8, rg, ru, rn⟩ := new_row3 hW8
  have hB8 := (unhide HB).trans (h8.mono (unhide HB).size)
  have HS8 := hide ((unhide HS7).below h8)
  clear HB HS7 HRf HRt h8 hW8
  have cg_0 : W8.cell? ⟨w7.heap.size, 0, none⟩ = some (I 1) := cellr rg rfl
  have cg_1 : W8.cell? ⟨w7.heap.size, 1, none⟩ = some (S tApp) := cellr rg rfl
  have cg_2 : W8.cell? ⟨w7.heap.size, 2, none⟩ = some (S tAnn) := cellr rg rfl
  have cg_3 : W8.cell? ⟨w7.heap.size, 3, none⟩ = some (.slice a2 1 k2) := cellr rg rfl
  have cg_4 : W8.cell? ⟨w7.heap.size, 4, none⟩ = some (I 100) := cellr rg rfl
  have cg_5 : W8.cell? ⟨w7.heap.size, 5, none⟩ = some (I 110) := cellr rg rfl
  have cg_6 : W8.cell? ⟨w7.heap.size, 6, none⟩ = some (I 50) := cellr rg rfl
  have cg_7 : W8.cell? ⟨w7.heap.size, 7, none⟩ = some (I 120) := cellr rg rfl
  have cg_8 : W8.cell? ⟨w7.heap.size, 8, none⟩ = some (I 10) := cellr rg rfl
  have cg_9 : W8.cell? ⟨w7.heap.size, 9, none⟩ = some (I 2) := cellr rg rfl
  have cg_10 : W8.cell? ⟨w7.heap.size, 10, none⟩ = some (I 3) := cellr rg rfl
  have cg_11 : W8.cell? ⟨w7.heap.size, 11, none⟩ = some (I 1) := cellr rg rfl
  have cg_12 : W8.cell? ⟨w7.heap.size, 12, none⟩ = some (I 0) := cellr rg rfl
  have cg_13 : W8.cell? ⟨w7.heap.size, 13, none⟩ = some (I 0) := cellr rg rfl
  have cu_0 : W8.cell? ⟨w7.heap.size + 1, 0, none⟩ = some (I 2) := cellr ru rfl
  have cu_1 : W8.cell? ⟨w7.heap.size + 1, 1, none⟩ = some (I 1) := cellr ru rfl
  have cu_2 : W8.cell? ⟨w7.heap.size + 1, 2, none⟩ = some (I 1) := cellr ru rfl
  have cu_3 : W8.cell? ⟨w7.heap.size + 1, 3, none⟩ = some (S ha) := cellr ru rfl
  have cu_4 : W8.cell? ⟨w7.heap.size + 1, 4, none⟩ = some (I 100) := cellr ru rfl
  have cu_5 : W8.cell? ⟨w7.heap.size + 1, 5, none⟩ = some (.bool true) := cellr ru rfl
  have cu_6 : W8.cell? ⟨w7.heap.size + 1, 6, none⟩ = some (I 110) := cellr ru rfl
  have cu_7 : W8.cell? ⟨w7.heap.size + 1, 7, none⟩ = some (I 3) := cellr ru rfl
  have cu_8 : W8.cell? ⟨w7.heap.size + 1, 8, none⟩ = some (S tSec) := cellr ru rfl
  have cn_0 : W8.cell? ⟨w7.heap.size + 2, 0, none⟩ = some (I 3) := cellr rn rfl
  have cn_1 : W8.cell? ⟨w7.heap.size + 2, 1, none⟩ = some (I 1) := cellr rn rfl
  have cn_2 : W8.cell? ⟨w7.heap.size + 2, 2, none⟩ = some (I 2) := cellr rn rfl
  have cn_3 : W8.cell? ⟨w7.heap.size + 2, 3, none⟩ = some (S hb9) := cellr rn rfl
  have cn_4 : W8.cell? ⟨w7.heap.size + 2, 4, none⟩ = some (I 110) := cellr rn rfl
  have cn_5 : W8.cell? ⟨w7.heap.size + 2, 5, none⟩ = some (.bool false) := cellr rn rfl
  have cn_6 : W8.cell? ⟨w7.heap.size + 2, 6, none⟩ = some (I 0) := cellr rn rfl
  have cn_7 : W8.cell? ⟨w7.heap.size + 2, 7, none⟩ = some (I 0) := cellr rn rfl
  have cn_8 : W8.cell? ⟨w7.heap.size + 2, 8, none⟩ = some (S []) := cellr rn rfl
  have HB := hide hB8
  have HRg := hide rg
  have HRu := hide ru
  have HRn := hide rn
  clear hB8 rg ru rn
  go_wp2_with fail
  refine (unhide X5 W8 a2 k2 (unhide HS8)).mono ?_
  rintro e w9 ⟨rfl, h9⟩
  have HS9 := hide ((unhide HS8).below h9)
  clear X5 HS8
  have hbB := (unhide HB).trans (h9.mono (unhide HB).size)
  have rg := (h9.block _ (lt_of_row (unhide HRg))).trans (unhide HRg)
  have ru := (h9.block _ (lt_of_row (unhide HRu))).trans (unhide HRu)
  have rn := (h9.block _ (lt_of_row (unhide HRn))).trans (unhide HRn)
  clear h9 HB HRg HRu HRn cg_0 cg_1 cg_2 cg_3 cg_4 cg_5 cg_6 cg_7 cg_8 cg_9 cg_10 cg_11 cg_12 cg_13 cu_0 cu_1 cu_2 cu_3 cu_4 cu_5 cu_6 cu_7 cu_8 cn_0 cn_1 cn_2 cn_3 cn_4 cn_5 cn_6 cn_7 cn_8 
  have cg_0 : w9.cell? ⟨w7.heap.size, 0, none⟩ = some (I 1) := cellr rg rfl
  have cg_1 : w9.cell? ⟨w7.heap.size, 1, none⟩ = some (S tApp) := cellr rg rfl
  have cg_2 : w9.cell? ⟨w7.heap.size, 2, none⟩ = some (S tAnn) := cellr rg rfl
  have cg_3 : w9.cell? ⟨w7.heap.size, 3, none⟩ = some (.slice a2 1 k2) := cellr rg rfl
  have cg_4 : w9.cell? ⟨w7.heap.size, 4, none⟩ = some (I 100) := cellr rg rfl
  have cg_5 : w9.cell? ⟨w7.heap.size, 5, none⟩ = some (I 110) := cellr rg rfl
  have cg_6 : w9.cell? ⟨w7.heap.size, 6, none⟩ = some (I 50) := cellr rg rfl
  have cg_7 : w9.cell? ⟨w7.heap.size, 7, none⟩ = some (I 120) := cellr rg rfl
  have cg_8 : w9.cell? ⟨w7.heap.size, 8, none⟩ = some (I 10) := cellr rg rfl
  have cg_9 : w9.cell? ⟨w7.heap.size, 9, none⟩ = some (I 2) := cellr rg rfl
  have cg_10 : w9.cell? ⟨w7.heap.size, 10, none⟩ = some (I 3) := cellr rg rfl
  have cg_11 : w9.cell? ⟨w7.heap.size, 11, none⟩ = some (I 1) := cellr rg rfl
  have cg_12 : w9.cell? ⟨w7.heap.size, 12, none⟩ = some (I 0) := cellr rg rfl
  have cg_13 : w9.cell? ⟨w7.heap.size, 13, none⟩ = some (I 0) := cellr rg rfl
  have cu_0 : w9.cell? ⟨w7.heap.size + 1, 0, none⟩ = some (I 2) := cellr ru rfl
  have cu_1 : w9.cell? ⟨w7.heap.size + 1, 1, none⟩ = some (I 1) := cellr ru rfl
  have cu_2 : w9.cell? ⟨w7.heap.size + 1, 2, none⟩ = some (I 1) := cellr ru rfl
  have cu_3 : w9.cell? ⟨w7.heap.size + 1, 3, none⟩ = some (S ha) := cellr ru rfl
  have cu_4 : w9.cell? ⟨w7.heap.size + 1, 4, none⟩ = some (I 100) := cellr ru rfl
  have cu_5 : w9.cell? ⟨w7.heap.size + 1, 5, none⟩ = some (.bool true) := cellr ru rfl
  have cu_6 : w9.cell? ⟨w7.heap.size + 1, 6, none⟩ = some (I 110) := cellr ru rfl
  have cu_7 : w9.cell? ⟨w7.heap.size + 1, 7, none⟩ = some (I 3) := cellr ru rfl
  have cu_8 : w9.cell? ⟨w7.heap.size + 1, 8, none⟩ = some (S tSec) := cellr ru rfl
  have cn_0 : w9.cell? ⟨w7.heap.size + 2, 0, none⟩ = some (I 3) := cellr rn rfl
  have cn_1 : w9.cell? ⟨w7.heap.size + 2, 1, none⟩ = some (I 1) := cellr rn rfl
  have cn_2 : w9.cell? ⟨w7.heap.size + 2, 2, none⟩ = some (I 2) := cellr rn rfl
  have cn_3 : w9.cell? ⟨w7.heap.size + 2, 3, none⟩ = some (S hb9) := cellr rn rfl
  have cn_4 : w9.cell? ⟨w7.heap.size + 2, 4, none⟩ = some (I 110) := cellr rn rfl
  have cn_5 : w9.cell? ⟨w7.heap.size + 2, 5, none⟩ = some (.bool false) := cellr rn rfl
  have cn_6 : w9.cell? ⟨w7.heap.size + 2, 6, none⟩ = some (I 0) := cellr rn rfl
  have cn_7 : w9.cell? ⟨w7.heap.size + 2, 7, none⟩ = some (I 0) := cellr rn rfl
  have cn_8 : w9.cell? ⟨w7.heap.size + 2, 8, none⟩ = some (S []) := cellr rn rfl
  have HB := hide hbB
  have HRg := hide rg
  have HRu := hide ru
  have HRn := hide rn
  clear hbB rg ru rn
  go_wp2_with fail
  refine (unhide X6 w9 a2 k2 (unhide HS9)).mono ?_
  rintro e w10 ⟨rfl, h10⟩
  have HS10 := hide ((unhide HS9).below h10)
  clear X6 HS9
  have hbB := (unhide HB).trans (h10.mono (unhide HB).size)
  have rg := (h10.block _ (lt_of_row (unhide HRg))).trans (unhide HRg)
  have ru := (h10.block _ (lt_of_row (unhide HRu))).trans (unhide HRu)
  have rn := (h10.block _ (lt_of_row (unhide HRn))).trans (unhide HRn)
  clear h10 HB HRg HRu HRn cg_0 cg_1 cg_2 cg_3 cg_4 cg_5 cg_6 cg_7 cg_8 cg_9 cg_10 cg_11 cg_12 cg_13 cu_0 cu_1 cu_2 cu_3 cu_4 cu_5 cu_6 cu_7 cu_8 cn_0 cn_1 cn_2 cn_3 cn_4 cn_5 cn_6 cn_7 cn_8 
  have cg_0 : w10.cell? ⟨w7.heap.size, 0, none⟩ = some (I 1) := cellr rg rfl
  have cg_1 : w10.cell? ⟨w7.heap.size, 1, none⟩ = some (S tApp) := cellr rg rfl
  have cg_2 : w10.cell? ⟨w7.heap.size, 2, none⟩ = some (S tAnn) := cellr rg rfl
  have cg_3 : w10.cell? ⟨w7.heap.size, 3, none⟩ = some (.slice a2 1 k2) := cellr rg rfl
  have cg_4 : w10.cell? ⟨w7.heap.size, 4, none⟩ = some (I 100) := cellr rg rfl
  have cg_5 : w10.cell? ⟨w7.heap.size, 5, none⟩ = some (I 110) := cellr rg rfl
  have cg_6 : w10.cell? ⟨w7.heap.size, 6, none⟩ = some (I 50) := cellr rg rfl
  have cg_7 : w10.cell? ⟨w7.heap.size, 7, none⟩ = some (I 120) := cellr rg rfl
  have cg_8 : w10.cell? ⟨w7.heap.size, 8, none⟩ = some (I 10) := cellr rg rfl
  have cg_9 : w10.cell? ⟨w7.heap.size, 9, none⟩ = some (I 2) := cellr rg rfl
  have cg_10 : w10.cell? ⟨w7.heap.size, 10, none⟩ = some (I 3) := cellr rg rfl
  have cg_11 : w10.cell? ⟨w7.heap.size, 11, none⟩ = some (I 1) := cellr rg rfl
  have cg_12 : w10.cell? ⟨w7.heap.size, 12, none⟩ = some (I 0) := cellr rg rfl
  have cg_13 : w10.cell? ⟨w7.heap.size, 13, none⟩ = some (I 0) := cellr rg rfl
  have cu_0 : w10.cell? ⟨w7.heap.size + 1, 0, none⟩ = some (I 2) := cellr ru rfl
  have cu_1 : w10.cell? ⟨w7.heap.size + 1, 1, none⟩ = some (I 1) := cellr ru rfl
  have cu_2 : w10.cell? ⟨w7.heap.size + 1, 2, none⟩ = some (I 1) := cellr ru rfl
  have cu_3 : w10.cell? ⟨w7.heap.size + 1, 3, none⟩ = some (S ha) := cellr ru rfl
  have cu_4 : w10.cell? ⟨w7.heap.size + 1, 4, none⟩ = some (I 100) := cellr ru rfl
  have cu_5 : w10.cell? ⟨w7.heap.size + 1, 5, none⟩ = some (.bool true) := cellr ru rfl
  have cu_6 : w10.cell? ⟨w7.heap.size + 1, 6, none⟩ = some (I 110) := cellr ru rfl
  have cu_7 : w10.cell? ⟨w7.heap.size + 1, 7, none⟩ = some (I 3) := cellr ru rfl
  have cu_8 : w10.cell? ⟨w7.heap.size + 1, 8, none⟩ = some (S tSec) := cellr ru rfl
  have cn_0 : w10.cell? ⟨w7.heap.size + 2, 0, none⟩ = some (I 3) := cellr rn rfl
  have cn_1 : w10.cell? ⟨w7.heap.size + 2, 1, none⟩ = some (I 1) := cellr rn rfl
  have cn_2 : w10.cell? ⟨w7.heap.size + 2, 2, none⟩ = some (I 2) := cellr rn rfl
  have cn_3 : w10.cell? ⟨w7.heap.size + 2, 3, none⟩ = some (S hb9) := cellr rn rfl
  have cn_4 : w10.cell? ⟨w7.heap.size + 2, 4, none⟩ = some (I 110) := cellr rn rfl
  have cn_5 : w10.cell? ⟨w7.heap.size + 2, 5, none⟩ = some (.bool false) := cellr rn rfl
  have cn_6 : w10.cell? ⟨w7.heap.size + 2, 6, none⟩ = some (I 0) := cellr rn rfl
  have cn_7 : w10.cell? ⟨w7.heap.size + 2, 7, none⟩ = some (I 0) := cellr rn rfl
  have cn_8 : w10.cell? ⟨w7.heap.size + 2, 8, none⟩ = some (S []) := cellr rn rfl
  have HB := hide hbB
  have HRg := hide rg
  have HRu := hide ru
  have HRn := hide rn
  clear hbB rg ru rn
  go_wp2_with fail
  refine (unhide X7 w10 a2 k2 (unhide HS10)).mono ?_
  rintro e w11 ⟨rfl, h11⟩
  have HS11 := hide ((unhide HS10).below h11)
  clear X7 HS10
  have hbB := (unhide HB).trans (h11.mono (unhide HB).size)
  have rg := (h11.block _ (lt_of_row (unhide HRg))).trans (unhide HRg)
  have ru := (h11.block _ (lt_of_row (unhide HRu))).trans (unhide HRu)
  have rn := (h11.block _ (lt_of_row (unhide HRn))).trans (unhide HRn)
  clear h11 HB HRg HRu HRn cg_0 cg_1 cg_2 cg_3 cg_4 cg_5 cg_6 cg_7 cg_8 cg_9 cg_10 cg_11 cg_12 cg_13 cu_0 cu_1 cu_2 cu_3 cu_4 cu_5 cu_6 cu_7 cu_8 cn_0 cn_1 cn_2 cn_3 cn_4 cn_5 cn_6 cn_7 cn_8 
  have HB := hide hbB
  have HRg := hide rg
  have HRu := hide ru
  have HRn := hide rn
  clear hbB rg ru rn
  go_wp2
  go_ret
  exact ⟨rfl, unhide HB⟩
end Go.Proofs.YtmjaobddgaglhaaGreatDoor
