import Derived.Test.YtmjaobddgaglhaaGreatDoorZsmc
import Derived.Test.YtmjaobddgaglhaaGreatDoorFmc
import Derived.Test.YtmjaobddgaglhaaGreatDoorZdetl
import Derived.Test.YtmjaobddgaglhaaGreatDoorTkm
/- Boxes. -/
namespace Go.Proofs.YtmjaobddgaglhaaGreatDoor
open Go.RowKit
theorem al_new (w : World) (o : Obj) (n : Nat) (h : n = w.heap.size) : (w.alloc o).heap[n]? = some o := by rw [h]; exact heap_alloc_new w o
theorem al_old (w : World) (o : Obj) (n : Nat) (h : n < w.heap.size) {x : Obj} (hx : w.heap[n]? = some x) : (w.alloc o).heap[n]? = some x := (heap_alloc_old _ _ h).trans hx
theorem inf24 : (Tryz.prog.info? 24).map (·.size) = some 14 := by kernel_rfl
theorem inf26 : (Tryz.prog.info? 26).map (·.size) = some 9 := by kernel_rfl
theorem inf40 : (Tryz.prog.info? 40).map (·.size) = some 8 := by kernel_rfl
theorem wp_stA {T n : Nat} (hi : (Tryz.prog.info? T).map (·.size) = some n) {ops : Array Oper} {rest : List Oper} {o : Oper} {a : Act} {w : World} {Q : Exit → Act → World → Prop} (hgd : o.guard = none) (x y : Operand) (ho : o.op = .store T x y)
    (P : Nat) (hx : a.eval x = .pointer (some ⟨P, 0, none⟩)) (vs : Array Value) (hy : a.eval y = .agg vs) (old : Array Value) (hv : vs.size = n) (ho5 : old.size = n) (hg : w.heap[P]? = some (.cells old T (0, 0))) (hone : vs.all (·.oneCell') = true)
    (h : wpList Tryz.prog ops Q rest (a.put o.dst undef) (w.setRow P vs)) : wpList Tryz.prog ops Q (o :: rest) a w :=
  wpList_store_row hgd T x y ho P vs hx hy T old hg (by rw [hi, hv]) (by rw [ho5, hv]) hone h
theorem out3c {T U : TypeId} {n m : Nat} (hA : ∀ w, (isAgg T).run Tryz.prog w = .ok true w) (hs : ∀ w, (sizeOf T).run Tryz.prog w = .ok n w) (hA' : ∀ w, (isAgg U).run Tryz.prog w = .ok true w) (hs' : ∀ w, (sizeOf U).run Tryz.prog w = .ok m w) {fn : Func} {p p' q : Tmp} {W : World} {a : Act} {Z Z' : Nat} {cs cs' : Array Value} {t t' : TypeId} {v : Value} {Post : Ending → World → Prop} (hf : fn.results = #[.cell p T, .cell p' U, .tmp q]) (hd : a.defers = []) (ht : a.tmps.getD p undef = .pointer (some ⟨Z, 0, none⟩)) (ht' : a.tmps.getD p' undef = .pointer (some ⟨Z', 0, none⟩)) (hv : a.tmps.getD q undef = v) (h : W.heap[Z]? = some (.cells cs t (0, 0))) (hn : cs.size = n) (h' : W.heap[Z']? = some (.cells cs' t' (0, 0))) (hn' : cs'.size = m) (hp : Post (.returned (.tuple #[.agg cs, .agg cs', v])) W) : bodyPost Tryz.prog fn Post .ret a W := by
  subst hv
  refine bodyPost_ret ?_ hd hp
  have ht1 : a.tmps[p]?.getD undef = .pointer (some ⟨Z, 0, none⟩) := by simpa using ht
  have ht2 : a.tmps[p']?.getD undef = .pointer (some ⟨Z', 0, none⟩) := by simpa using ht'
  simp only [results, hf]
  simp [ht1, ht2, asAddr, lv_row hA hs h hn, lv_row hA' hs' h' hn']
theorem out4c {T U : TypeId} {n m : Nat} (hA : ∀ w, (isAgg T).run Tryz.prog w = .ok true w) (hs : ∀ w, (sizeOf T).run Tryz.prog w = .ok n w) (hA' : ∀ w, (isAgg U).run Tryz.prog w = .ok true w) (hs' : ∀ w, (sizeOf U).run Tryz.prog w = .ok m w) {fn : Func} {p p' p2 q : Tmp} {W : World} {a : Act} {Z Z' Z2 : Nat} {cs cs' cs2 : Array Value} {t t' t2 : TypeId} {v : Value} {Post : Ending → World → Prop} (hf : fn.results = #[.cell p T, .cell p' U, .cell p2 U, .tmp q]) (hd : a.defers = []) (ht : a.tmps.getD p undef = .pointer (some ⟨Z, 0, none⟩)) (ht' : a.tmps.getD p' undef = .pointer (some ⟨Z', 0, none⟩)) (ht2 : a.tmps.getD p2 undef = .pointer (some ⟨Z2, 0, none⟩)) (hv : a.tmps.getD q undef = v) (h : W.heap[Z]? = some (.cells cs t (0, 0))) (hn : cs.size = n) (h' : W.heap[Z']? = some (.cells cs' t' (0, 0))) (hn' : cs'.size = m) (h2 : W.heap[Z2]? = some (.cells cs2 t2 (0, 0))) (hn2 : cs2.size = m) (hp : Post (.returned (.tuple #[.agg cs, .agg cs', .agg cs2, v])) W) : bodyPost Tryz.prog fn Post .ret a W := by
  subst hv
  refine bodyPost_ret ?_ hd hp
  have ht3 : a.tmps[p]?.getD undef = .pointer (some ⟨Z, 0, none⟩) := by simpa using ht
  have ht4 : a.tmps[p']?.getD undef = .pointer (some ⟨Z', 0, none⟩) := by simpa using ht'
  have ht5 : a.tmps[p2]?.getD undef = .pointer (some ⟨Z2, 0, none⟩) := by simpa using ht2
  simp only [results, hf]
  simp [ht3, ht4, ht5, asAddr, lv_row hA hs h hn, lv_row hA' hs' h' hn', lv_row hA' hs' h2 hn2]
end Go.Proofs.YtmjaobddgaglhaaGreatDoor
/- Alive, Judge. -/
namespace Go.Proofs.YtmjaobddgaglhaaGreatDoor
open Go.RowKit
set_option maxHeartbeats 4000000
set_option maxRecDepth 8000
/-- Is a family alive? -/
def alv (cr us idl ab st en now : Int) : Bool := decide (st = 1) && decide (nr now < endV cr us idl ab st en)
/-- The verdict, by what was asked. -/
def jd (b0 b1 b2 b3 b4 b5 b6 b7 b8 : Bool) : Int := cond b0 (cond b1 (cond b2 (cond b3 (cond b4 (cond b5 (cond b6 2 3) (cond b7 (cond b8 1 0) 0)) 4) 5) 0) 0) 0
def jdg (id : Int) (cl su : Bs) (sc : List Bs) (cr us idl ab gr ge tk st en co : Int) (ti fa tg : Int) (ha : Bs) (mi : Int) (sp : Bool) (at9 ne : Int) (se : Bs) (now : Int) : Int := jd (famOK id cl su sc cr us idl ab gr ge tk st en co) (tokOK ti fa tg ha mi sp at9 ne se) (fa == id) (st == 1) (alv cr us idl ab st en now) sp (wtn now at9 gr) (ti == tk) (tg == ge)
theorem alive_any (id : Int) (cl su : Bs) (va : Option Addr) (vc : Nat) (sc : List Bs) (cr us idl ab gr ge tk st en co : Int) (now : Int) (w : World) : Calls Tryz.prog 10 #[.agg #[I id, S cl, S su, .slice va sc.length vc, I cr, I us, I idl, I ab, I gr, I ge, I tk, I st, I en, I co], I now] w fun e w' => e = .returned (.bool (alv cr us idl ab st en now)) ∧ Below w.heap.size w w' := by
  have hb : Below w.heap.size w (w.alloc (.cells #[I id, S cl, S su, .slice va sc.length vc, I cr, I us, I idl, I ab, I gr, I ge, I tk, I st, I en, I co] 24)) := ((Below.refl _ w).alloc (by simp) _)
  have r0 : (w.alloc (.cells #[I id, S cl, S su, .slice va sc.length vc, I cr, I us, I idl, I ab, I gr, I ge, I tk, I st, I en, I co] 24)).heap[w.heap.size]? = some (.cells #[I id, S cl, S su, .slice va sc.length vc, I cr, I us, I idl, I ab, I gr, I ge, I tk, I st, I en, I co] 24 (0, 0)) := al_new w (.cells #[I id, S cl, S su, .slice va sc.length vc, I cr, I us, I idl, I ab, I gr, I ge, I tk, I st, I en, I co] 24) (w.heap.size) (by simp)
  generalize hW1 : (w.alloc (.cells #[I id, S cl, S su, .slice va sc.length vc, I cr, I us, I idl, I ab, I gr, I ge, I tk, I st, I en, I co] 24)) = W1 at *
  have c0_0 : W1.cell? ⟨w.heap.size, 0, none⟩ = some (I id) := cellr r0 rfl
  have c0_1 : W1.cell? ⟨w.heap.size, 1, none⟩ = some (S cl) := cellr r0 rfl
  have c0_2 : W1.cell? ⟨w.heap.size, 2, none⟩ = some (S su) := cellr r0 rfl
  have c0_3 : W1.cell? ⟨w.heap.size, 3, none⟩ = some (.slice va sc.length vc) := cellr r0 rfl
  have c0_4 : W1.cell? ⟨w.heap.size, 4, none⟩ = some (I cr) := cellr r0 rfl
  have c0_5 : W1.cell? ⟨w.heap.size, 5, none⟩ = some (I us) := cellr r0 rfl
  have c0_6 : W1.cell? ⟨w.heap.size, 6, none⟩ = some (I idl) := cellr r0 rfl
  have c0_7 : W1.cell? ⟨w.heap.size, 7, none⟩ = some (I ab) := cellr r0 rfl
  have c0_8 : W1.cell? ⟨w.heap.size, 8, none⟩ = some (I gr) := cellr r0 rfl
  have c0_9 : W1.cell? ⟨w.heap.size, 9, none⟩ = some (I ge) := cellr r0 rfl
  have c0_10 : W1.cell? ⟨w.heap.size, 10, none⟩ = some (I tk) := cellr r0 rfl
  have c0_11 : W1.cell? ⟨w.heap.size, 11, none⟩ = some (I st) := cellr r0 rfl
  have c0_12 : W1.cell? ⟨w.heap.size, 12, none⟩ = some (I en) := cellr r0 rfl
  have c0_13 : W1.cell? ⟨w.heap.size, 13, none⟩ = some (I co) := cellr r0 rfl
  have HB := hide hb
  have HR0 := hide r0
  clear hb r0
  have HA : Hid (alv cr us idl ab st en now = (decide (st = 1) && decide (nr now < endV cr us idl ab st en))) := hide rfl
  have XE := hide (fun W => End_any id cl su va vc sc cr us idl ab gr ge tk st en co W)
  have XN := hide (fun W => fnear_any now W)
  generalize alv cr us idl ab st en now = A at *
  generalize endV cr us idl ab st en = E at *
  generalize nr now = T at *
  by_cases h1 : st = 1
  · subst h1
    have HA2 := hide (show A = decide (T < E) by rw [unhide HA]; simp)
    clear HA
    go_enter Tryz.func10, Tryz.ntmps10
    go_wp2_with fail
    refine (unhide XE W1).mono ?_
    rintro e w2 ⟨rfl, h2⟩
    have HB2 := hide ((unhide HB).trans (h2.mono (unhide HB).size))
    clear h2 HB XE HR0 hW1 c0_0 c0_1 c0_2 c0_3 c0_4 c0_5 c0_6 c0_7 c0_8 c0_9 c0_10 c0_11 c0_12 c0_13
    go_wp2_with fail
    refine (unhide XN w2).mono ?_
    rintro e w3 ⟨rfl, h3⟩
    have HB3 := hide ((unhide HB2).trans (h3.mono (unhide HB2).size))
    clear h3 HB2 XN
    go_wp2
    go_ret
    rw [unhide HA2]
    exact ⟨rfl, unhide HB3⟩
  · have hb1 : (st == 1) = false := by simpa using h1
    have HA2 := hide (show A = false by rw [unhide HA]; simp [h1])
    clear HA h1 XE XN
    go_enter Tryz.func10, Tryz.ntmps10
    go_wp2
    go_ret
    rw [unhide HA2]
    exact ⟨rfl, unhide HB⟩
theorem judge_any (id : Int) (cl su : Bs) (va : Option Addr) (vc : Nat) (sc : List Bs) (cr us idl ab gr ge tk st en co : Int) (ti fa tg : Int) (ha : Bs) (mi : Int) (sp : Bool) (at9 ne : Int) (se : Bs) (now : Int) (w : World) (h_cl : cl.length ≤ 9223372036854775807) (h_su : su.length ≤ 9223372036854775807) (hsc : Sts w va sc.length sc) (hsl : sc.length ≤ 140737488355000) (hln : Lns sc) : Calls Tryz.prog 8 #[.agg #[I id, S cl, S su, .slice va sc.length vc, I cr, I us, I idl, I ab, I gr, I ge, I tk, I st, I en, I co], .agg #[I ti, I fa, I tg, S ha, I mi, .bool sp, I at9, I ne, S se], I now] w fun e w' => e = .returned (I (jdg id cl su sc cr us idl ab gr ge tk st en co ti fa tg ha mi sp at9 ne se now)) ∧ Below w.heap.size w w' := by
  have hb : Below w.heap.size w ((w.alloc (.cells #[I id, S cl, S su, .slice va sc.length vc, I cr, I us, I idl, I ab, I gr, I ge, I tk, I st, I en, I co] 24)).alloc (.cells #[I ti, I fa, I tg, S ha, I mi, .bool sp, I at9, I ne, S se] 26)) := (((Below.refl _ w).alloc (by simp) _).alloc (by simp) _)
  have r0 : ((w.alloc (.cells #[I id, S cl, S su, .slice va sc.length vc, I cr, I us, I idl, I ab, I gr, I ge, I tk, I st, I en, I co] 24)).alloc (.cells #[I ti, I fa, I tg, S ha, I mi, .bool sp, I at9, I ne, S se] 26)).heap[w.heap.size]? = some (.cells #[I id, S cl, S su, .slice va sc.length vc, I cr, I us, I idl, I ab, I gr, I ge, I tk, I st, I en, I co] 24 (0, 0)) := al_old _ _ _ (by simp <;> omega) (al_new w (.cells #[I id, S cl, S su, .slice va sc.length vc, I cr, I us, I idl, I ab, I gr, I ge, I tk, I st, I en, I co] 24) (w.heap.size) (by simp))
  have r1 : ((w.alloc (.cells #[I id, S cl, S su, .slice va sc.length vc, I cr, I us, I idl, I ab, I gr, I ge, I tk, I st, I en, I co] 24)).alloc (.cells #[I ti, I fa, I tg, S ha, I mi, .bool sp, I at9, I ne, S se] 26)).heap[w.heap.size + 1]? = some (.cells #[I ti, I fa, I tg, S ha, I mi, .bool sp, I at9, I ne, S se] 26 (0, 0)) := al_new (w.alloc (.cells #[I id, S cl, S su, .slice va sc.length vc, I cr, I us, I idl, I ab, I gr, I ge, I tk, I st, I en, I co] 24)) (.cells #[I ti, I fa, I tg, S ha, I mi, .bool sp, I at9, I ne, S se] 26) (w.heap.size + 1) (by simp)
  generalize hW1 : ((w.alloc (.cells #[I id, S cl, S su, .slice va sc.length vc, I cr, I us, I idl, I ab, I gr, I ge, I tk, I st, I en, I co] 24)).alloc (.cells #[I ti, I fa, I tg, S ha, I mi, .bool sp, I at9, I ne, S se] 26)) = W1 at *
  have c0_0 : W1.cell? ⟨w.heap.size, 0, none⟩ = some (I id) := cellr r0 rfl
  have c0_1 : W1.cell? ⟨w.heap.size, 1, none⟩ = some (S cl) := cellr r0 rfl
  have c0_2 : W1.cell? ⟨w.heap.size, 2, none⟩ = some (S su) := cellr r0 rfl
  have c0_3 : W1.cell? ⟨w.heap.size, 3, none⟩ = some (.slice va sc.length vc) := cellr r0 rfl
  have c0_4 : W1.cell? ⟨w.heap.size, 4, none⟩ = some (I cr) := cellr r0 rfl
  have c0_5 : W1.cell? ⟨w.heap.size, 5, none⟩ = some (I us) := cellr r0 rfl
  have c0_6 : W1.cell? ⟨w.heap.size, 6, none⟩ = some (I idl) := cellr r0 rfl
  have c0_7 : W1.cell? ⟨w.heap.size, 7, none⟩ = some (I ab) := cellr r0 rfl
  have c0_8 : W1.cell? ⟨w.heap.size, 8, none⟩ = some (I gr) := cellr r0 rfl
  have c0_9 : W1.cell? ⟨w.heap.size, 9, none⟩ = some (I ge) := cellr r0 rfl
  have c0_10 : W1.cell? ⟨w.heap.size, 10, none⟩ = some (I tk) := cellr r0 rfl
  have c0_11 : W1.cell? ⟨w.heap.size, 11, none⟩ = some (I st) := cellr r0 rfl
  have c0_12 : W1.cell? ⟨w.heap.size, 12, none⟩ = some (I en) := cellr r0 rfl
  have c0_13 : W1.cell? ⟨w.heap.size, 13, none⟩ = some (I co) := cellr r0 rfl
  have c1_0 : W1.cell? ⟨w.heap.size + 1, 0, none⟩ = some (I ti) := cellr r1 rfl
  have c1_1 : W1.cell? ⟨w.heap.size + 1, 1, none⟩ = some (I fa) := cellr r1 rfl
  have c1_2 : W1.cell? ⟨w.heap.size + 1, 2, none⟩ = some (I tg) := cellr r1 rfl
  have c1_3 : W1.cell? ⟨w.heap.size + 1, 3, none⟩ = some (S ha) := cellr r1 rfl
  have c1_4 : W1.cell? ⟨w.heap.size + 1, 4, none⟩ = some (I mi) := cellr r1 rfl
  have c1_5 : W1.cell? ⟨w.heap.size + 1, 5, none⟩ = some (.bool sp) := cellr r1 rfl
  have c1_6 : W1.cell? ⟨w.heap.size + 1, 6, none⟩ = some (I at9) := cellr r1 rfl
  have c1_7 : W1.cell? ⟨w.heap.size + 1, 7, none⟩ = some (I ne) := cellr r1 rfl
  have c1_8 : W1.cell? ⟨w.heap.size + 1, 8, none⟩ = some (S se) := cellr r1 rfl
  have HB := hide hb
  have HR0 := hide r0
  have HR1 := hide r1
  clear hb r0 r1
  have XF := hide (fun W (h : Below w.heap.size w W) => famMay_any id cl su va vc sc cr us idl ab gr ge tk st en co W h_cl h_su (hsc.below h) hsl hln)
  have XT := hide (fun W => tokMay_any ti fa tg ha mi sp at9 ne se W)
  have XA := hide (fun W => alive_any id cl su va vc sc cr us idl ab gr ge tk st en co now W)
  have XW := hide (fun W => within_any now at9 gr W)
  have HJ : Hid (jdg id cl su sc cr us idl ab gr ge tk st en co ti fa tg ha mi sp at9 ne se now = jd (famOK id cl su sc cr us idl ab gr ge tk st en co) (tokOK ti fa tg ha mi sp at9 ne se) (fa == id) (st == 1) (alv cr us idl ab st en now) sp (wtn now at9 gr) (ti == tk) (tg == ge)) := hide rfl
  generalize jdg id cl su sc cr us idl ab gr ge tk st en co ti fa tg ha mi sp at9 ne se now = J at *
  generalize famOK id cl su sc cr us idl ab gr ge tk st en co = b0 at *
  generalize tokOK ti fa tg ha mi sp at9 ne se = b1 at *
  generalize alv cr us idl ab st en now = b4 at *
  generalize wtn now at9 gr = b6 at *
  clear hsc hln h_cl h_su hsl
  go_enter Tryz.func8, Tryz.ntmps8
  go_wp2_with fail
  refine (unhide XF W1 (unhide HB)).mono ?_
  rintro e w2 ⟨rfl, h2⟩
  have hbB := (unhide HB).trans (h2.mono (unhide HB).size)
  have r0 := (h2.block _ (lt_of_row (unhide HR0))).trans (unhide HR0)
  have r1 := (h2.block _ (lt_of_row (unhide HR1))).trans (unhide HR1)
  clear h2 HB HR0 HR1 c0_0 c0_1 c0_2 c0_3 c0_4 c0_5 c0_6 c0_7 c0_8 c0_9 c0_10 c0_11 c0_12 c0_13 c1_0 c1_1 c1_2 c1_3 c1_4 c1_5 c1_6 c1_7 c1_8 hW1
  have c0_0 : w2.cell? ⟨w.heap.size, 0, none⟩ = some (I id) := cellr r0 rfl
  have c0_1 : w2.cell? ⟨w.heap.size, 1, none⟩ = some (S cl) := cellr r0 rfl
  have c0_2 : w2.cell? ⟨w.heap.size, 2, none⟩ = some (S su) := cellr r0 rfl
  have c0_3 : w2.cell? ⟨w.heap.size, 3, none⟩ = some (.slice va sc.length vc) := cellr r0 rfl
  have c0_4 : w2.cell? ⟨w.heap.size, 4, none⟩ = some (I cr) := cellr r0 rfl
  have c0_5 : w2.cell? ⟨w.heap.size, 5, none⟩ = some (I us) := cellr r0 rfl
  have c0_6 : w2.cell? ⟨w.heap.size, 6, none⟩ = some (I idl) := cellr r0 rfl
  have c0_7 : w2.cell? ⟨w.heap.size, 7, none⟩ = some (I ab) := cellr r0 rfl
  have c0_8 : w2.cell? ⟨w.heap.size, 8, none⟩ = some (I gr) := cellr r0 rfl
  have c0_9 : w2.cell? ⟨w.heap.size, 9, none⟩ = some (I ge) := cellr r0 rfl
  have c0_10 : w2.cell? ⟨w.heap.size, 10, none⟩ = some (I tk) := cellr r0 rfl
  have c0_11 : w2.cell? ⟨w.heap.size, 11, none⟩ = some (I st) := cellr r0 rfl
  have c0_12 : w2.cell? ⟨w.heap.size, 12, none⟩ = some (I en) := cellr r0 rfl
  have c0_13 : w2.cell? ⟨w.heap.size, 13, none⟩ = some (I co) := cellr r0 rfl
  have c1_0 : w2.cell? ⟨w.heap.size + 1, 0, none⟩ = some (I ti) := cellr r1 rfl
  have c1_1 : w2.cell? ⟨w.heap.size + 1, 1, none⟩ = some (I fa) := cellr r1 rfl
  have c1_2 : w2.cell? ⟨w.heap.size + 1, 2, none⟩ = some (I tg) := cellr r1 rfl
  have c1_3 : w2.cell? ⟨w.heap.size + 1, 3, none⟩ = some (S ha) := cellr r1 rfl
  have c1_4 : w2.cell? ⟨w.heap.size + 1, 4, none⟩ = some (I mi) := cellr r1 rfl
  have c1_5 : w2.cell? ⟨w.heap.size + 1, 5, none⟩ = some (.bool sp) := cellr r1 rfl
  have c1_6 : w2.cell? ⟨w.heap.size + 1, 6, none⟩ = some (I at9) := cellr r1 rfl
  have c1_7 : w2.cell? ⟨w.heap.size + 1, 7, none⟩ = some (I ne) := cellr r1 rfl
  have c1_8 : w2.cell? ⟨w.heap.size + 1, 8, none⟩ = some (S se) := cellr r1 rfl
  have HB := hide hbB
  have HR0 := hide r0
  have HR1 := hide r1
  clear hbB r0 r1
  clear XF
  cases b0
  · skip
    go_wp2
    go_ret
    exact ⟨by rw [unhide HJ]; rfl, unhide HB⟩
  · skip
    go_wp2_with fail
    refine (unhide XT w2).mono ?_
    rintro e w3 ⟨rfl, h3⟩
    have hbB := (unhide HB).trans (h3.mono (unhide HB).size)
    have r0 := (h3.block _ (lt_of_row (unhide HR0))).trans (unhide HR0)
    have r1 := (h3.block _ (lt_of_row (unhide HR1))).trans (unhide HR1)
    clear h3 HB HR0 HR1 c0_0 c0_1 c0_2 c0_3 c0_4 c0_5 c0_6 c0_7 c0_8 c0_9 c0_10 c0_11 c0_12 c0_13 c1_0 c1_1 c1_2 c1_3 c1_4 c1_5 c1_6 c1_7 c1_8 
    have c0_0 : w3.cell? ⟨w.heap.size, 0, none⟩ = some (I id) := cellr r0 rfl
    have c0_1 : w3.cell? ⟨w.heap.size, 1, none⟩ = some (S cl) := cellr r0 rfl
    have c0_2 : w3.cell? ⟨w.heap.size, 2, none⟩ = some (S su) := cellr r0 rfl
    have c0_3 : w3.cell? ⟨w.heap.size, 3, none⟩ = some (.slice va sc.length vc) := cellr r0 rfl
    have c0_4 : w3.cell? ⟨w.heap.size, 4, none⟩ = some (I cr) := cellr r0 rfl
    have c0_5 : w3.cell? ⟨w.heap.size, 5, none⟩ = some (I us) := cellr r0 rfl
    have c0_6 : w3.cell? ⟨w.heap.size, 6, none⟩ = some (I idl) := cellr r0 rfl
    have c0_7 : w3.cell? ⟨w.heap.size, 7, none⟩ = some (I ab) := cellr r0 rfl
    have c0_8 : w3.cell? ⟨w.heap.size, 8, none⟩ = some (I gr) := cellr r0 rfl
    have c0_9 : w3.cell? ⟨w.heap.size, 9, none⟩ = some (I ge) := cellr r0 rfl
    have c0_10 : w3.cell? ⟨w.heap.size, 10, none⟩ = some (I tk) := cellr r0 rfl
    have c0_11 : w3.cell? ⟨w.heap.size, 11, none⟩ = some (I st) := cellr r0 rfl
    have c0_12 : w3.cell? ⟨w.heap.size, 12, none⟩ = some (I en) := cellr r0 rfl
    have c0_13 : w3.cell? ⟨w.heap.size, 13, none⟩ = some (I co) := cellr r0 rfl
    have c1_0 : w3.cell? ⟨w.heap.size + 1, 0, none⟩ = some (I ti) := cellr r1 rfl
    have c1_1 : w3.cell? ⟨w.heap.size + 1, 1, none⟩ = some (I fa) := cellr r1 rfl
    have c1_2 : w3.cell? ⟨w.heap.size + 1, 2, none⟩ = some (I tg) := cellr r1 rfl
    have c1_3 : w3.cell? ⟨w.heap.size + 1, 3, none⟩ = some (S ha) := cellr r1 rfl
    have c1_4 : w3.cell? ⟨w.heap.size + 1, 4, none⟩ = some (I mi) := cellr r1 rfl
    have c1_5 : w3.cell? ⟨w.heap.size + 1, 5, none⟩ = some (.bool sp) := cellr r1 rfl
    have c1_6 : w3.cell? ⟨w.heap.size + 1, 6, none⟩ = some (I at9) := cellr r1 rfl
    have c1_7 : w3.cell? ⟨w.heap.size + 1, 7, none⟩ = some (I ne) := cellr r1 rfl
    have c1_8 : w3.cell? ⟨w.heap.size + 1, 8, none⟩ = some (S se) := cellr r1 rfl
    have HB := hide hbB
    have HR0 := hide r0
    have HR1 := hide r1
    clear hbB r0 r1
    clear XT
    cases b1
    · skip
      go_wp2
      go_ret
      exact ⟨by rw [unhide HJ]; rfl, unhide HB⟩
    · skip
      cases hq2 : (fa == id)
      · skip
        have g2 : (fa != id) = true := by simp [bne, hq2]
        rw [hq2] at HJ
        clear hq2
        go_wp2
        go_ret
        exact ⟨by rw [unhide HJ]; rfl, unhide HB⟩
      · skip
        have g2 : (fa != id) = false := by simp [bne, hq2]
        rw [hq2] at HJ
        clear hq2
        cases hq3 : (st == 1)
        · skip
          have g3 : (st != 1) = true := by simp [bne, hq3]
          rw [hq3] at HJ
          clear hq3
          go_wp2
          go_ret
          exact ⟨by rw [unhide HJ]; rfl, unhide HB⟩
        · skip
          have g3 : (st != 1) = false := by simp [bne, hq3]
          rw [hq3] at HJ
          clear hq3
          go_wp2_with fail
          refine (unhide XA w3).mono ?_
          rintro e w4 ⟨rfl, h4⟩
          have hbB := (unhide HB).trans (h4.mono (unhide HB).size)
          have r0 := (h4.block _ (lt_of_row (unhide HR0))).trans (unhide HR0)
          have r1 := (h4.block _ (lt_of_row (unhide HR1))).trans (unhide HR1)
          clear h4 HB HR0 HR1 c0_0 c0_1 c0_2 c0_3 c0_4 c0_5 c0_6 c0_7 c0_8 c0_9 c0_10 c0_11 c0_12 c0_13 c1_0 c1_1 c1_2 c1_3 c1_4 c1_5 c1_6 c1_7 c1_8 
          have c0_8 : w4.cell? ⟨w.heap.size, 8, none⟩ = some (I gr) := cellr r0 rfl
          have c0_9 : w4.cell? ⟨w.heap.size, 9, none⟩ = some (I ge) := cellr r0 rfl
          have c0_10 : w4.cell? ⟨w.heap.size, 10, none⟩ = some (I tk) := cellr r0 rfl
          have c1_0 : w4.cell? ⟨w.heap.size + 1, 0, none⟩ = some (I ti) := cellr r1 rfl
          have c1_2 : w4.cell? ⟨w.heap.size + 1, 2, none⟩ = some (I tg) := cellr r1 rfl
          have c1_5 : w4.cell? ⟨w.heap.size + 1, 5, none⟩ = some (.bool sp) := cellr r1 rfl
          have c1_6 : w4.cell? ⟨w.heap.size + 1, 6, none⟩ = some (I at9) := cellr r1 rfl
          have HB := hide hbB
          have HR0 := hide r0
          have HR1 := hide r1
          clear hbB r0 r1
          clear XA
          cases b4
          · skip
            go_wp2
            go_ret
            exact ⟨by rw [unhide HJ]; rfl, unhide HB⟩
          · skip
            cases sp
            · skip
              cases hq7 : (ti == tk)
              · skip
                rw [hq7] at HJ
                go_wp2
                go_ret
                exact ⟨by rw [unhide HJ]; rfl, unhide HB⟩
              · skip
                rw [hq7] at HJ
                cases hq8 : (tg == ge)
                · skip
                  rw [hq8] at HJ
                  go_wp2
                  go_ret
                  exact ⟨by rw [unhide HJ]; rfl, unhide HB⟩
                · skip
                  rw [hq8] at HJ
                  go_wp2
                  go_ret
                  exact ⟨by rw [unhide HJ]; rfl, unhide HB⟩
            · skip
              go_wp2_with fail
              refine (unhide XW w4).mono ?_
              rintro e w5 ⟨rfl, hw5⟩
              rw [hw5]
              clear hw5 XW
              cases b6
              · skip
                go_wp2
                go_ret
                exact ⟨by rw [unhide HJ]; rfl, unhide HB⟩
              · skip
                go_wp2
                go_ret
                exact ⟨by rw [unhide HJ]; rfl, unhide HB⟩
end Go.Proofs.YtmjaobddgaglhaaGreatDoor
/- What comes out in memory of its own. -/
namespace Go.Proofs.YtmjaobddgaglhaaGreatDoor
open Go.RowKit
set_option maxHeartbeats 4000000
set_option maxRecDepth 8000
/-- A store of one value into a row. -/
theorem st_cell {T : TypeId} (hs : ∀ w, (sizeOf T).run Tryz.prog w = .ok 1 w) {W : World} {g j : Nat} {cs : Array Value} {t : TypeId} (hg : W.heap[g]? = some (.cells cs t (0, 0))) (hj : j < cs.size) (v : Value) (hv : v.cells = #[v]) (h1 : v.oneCell' = true) (new : Array Value) (hn : cs.setIfInBounds j v = new) : (Instr.storeAt T (.pointer (some ⟨g, j, none⟩)) v).run Tryz.prog W = .ok () (W.setRow g new) := by
  have e := s_sta (w := W) hs hg (o := j) v (by rw [hv]; rfl) (by omega) (by rw [hv]; intro x hx; simp at hx; rw [hx]; exact h1)
  rw [hv] at e
  rw [e, ← hn]
  congr 2
  apply Array.ext'
  simp only [Array.toList_setIfInBounds]
  rw [List.set_eq_take_append_cons_drop, if_pos (by simpa using hj)]
  simp
theorem row_set {W : World} {g k : Nat} {cs : Array Value} {t : TypeId} (h : W.heap[g]? = some (.cells cs t (0, 0))) (hk : g ≠ k) {vs' : Array Value} : (W.setRow k vs').heap[g]? = some (.cells cs t (0, 0)) := (setRow_other W k g vs' hk).trans h
theorem upd_of {L : Nat → Bool} {i j : Nat} (h : L j = true) : upd L i j = true := by by_cases e : j = i <;> simp [upd, e, h]
theorem upd_eq {L : Nat → Bool} {i : Nat} : upd L i i = true := by simp [upd]
theorem own_set {B : Nat} {w : World} {v : Value} {u : List Bs} (h : OwnS B w v u) (k : Nat) (vs : Array Value) (hk : k < B) : OwnS B (w.setRow k vs) v u := own_keep h (setRow_Only w k vs) (fun j e => by omega)
theorem bel_set {B : Nat} {w W : World} (h : Below B w W) (k : Nat) (vs : Array Value) (hk : B ≤ k) (hB : B ≤ W.heap.size) : Below B w (W.setRow k vs) := (setRow_Only W k vs).below h hB (fun j e => by omega)

def own43T : List (Op × Option Tmp × Option (Nat × Bool)) := [
  (.fieldAddr 24 (.tmp 1) 1, some 3, none),
  (.load 9 (.tmp 3), some 4, none),
  (.call { callee := .value (.func 49), args := #[(.tmp 4)], argTypes := #[9] }, some 5, none),
  (.fieldAddr 24 (.tmp 1) 2, some 6, none),
  (.load 9 (.tmp 6), some 7, none),
  (.call { callee := .value (.func 49), args := #[(.tmp 7)], argTypes := #[9] }, some 8, none),
  (.fieldAddr 24 (.tmp 1) 3, some 9, none),
  (.load 22 (.tmp 9), some 10, none),
  (.call { callee := .value (.func 50), args := #[(.tmp 10)], argTypes := #[22] }, some 11, none),
  (.fieldAddr 24 (.tmp 1) 1, some 12, none),
  (.store 9 (.tmp 12) (.tmp 5), none, none),
  (.fieldAddr 24 (.tmp 1) 2, some 13, none),
  (.store 9 (.tmp 13) (.tmp 8), none, none),
  (.fieldAddr 24 (.tmp 1) 3, some 14, none),
  (.store 22 (.tmp 14) (.tmp 11), none, none)]
def own43V (X : Nat) (cl su : Bs) (v0 : Value) (c : Value) : Nat → Value
  | 0 => .pointer (some ⟨X, 1, none⟩)
  | 1 => S cl
  | 2 => S cl
  | 3 => .pointer (some ⟨X, 2, none⟩)
  | 4 => S su
  | 5 => S su
  | 6 => .pointer (some ⟨X, 3, none⟩)
  | 7 => v0
  | 8 => c
  | 9 => .pointer (some ⟨X, 1, none⟩)
  | 10 => undef
  | 11 => .pointer (some ⟨X, 2, none⟩)
  | 12 => undef
  | 13 => .pointer (some ⟨X, 3, none⟩)
  | _ => undef
theorem own43V_ne {X : Nat} {cl su : Bs} {v0 c c' : Value} {j : Nat} (h : j ≠ 8) : own43V X cl su v0 c j = own43V X cl su v0 c' j := by
  match j, h with
  | 0, _ => rfl
  | 1, _ => rfl
  | 2, _ => rfl
  | 3, _ => rfl
  | 4, _ => rfl
  | 5, _ => rfl
  | 6, _ => rfl
  | 7, _ => rfl
  | 8, h => exact absurd rfl h
  | 9, _ => rfl
  | 10, _ => rfl
  | 11, _ => rfl
  | 12, _ => rfl
  | 13, _ => rfl
  | (q + 14), _ => rfl
/-- What holds in the midst of ownFamily's region. -/
structure W43 (w : World) (X : Nat) (R0 : Array Value) (R1 : Value → Array Value) (Z : Array Value) (u : List Bs) (c : Value) (L : Nat → Bool) (W : World) : Prop where
  be : Below X w W
  sz : X + 2 ≤ W.heap.size
  bx : W.heap[X]? = some (.cells (if L 14 then R1 c else R0) 24 (0, 0))
  rs : W.heap[X + 1]? = some (.cells Z 24 (0, 0))
  own : L 8 = true → OwnS (X + 2) W c u
  ord : L 14 = true → L 7 = true ∧ L 8 = true
theorem W43.pure {w : World} {X : Nat} {R0 : Array Value} {R1 : Value → Array Value} {Z : Array Value} {u : List Bs} {c : Value} {L : Nat → Bool} {W : World} (h : W43 w X R0 R1 Z u c L W) (i : Nat) (h14 : i ≠ 14) (h8 : i ≠ 8) : W43 w X R0 R1 Z u c (upd L i) W :=
  ⟨h.be, h.sz, by rw [upd_ne (fun e => h14 e.symm)]; exact h.bx, h.rs, fun e => h.own (by rw [upd_ne (fun q => h8 q.symm)] at e; exact e), fun e => by
    rw [upd_ne (fun q => h14 q.symm)] at e
    exact ⟨upd_of (h.ord e).1, upd_of (h.ord e).2⟩⟩
theorem W43.call {w : World} {X : Nat} {R0 : Array Value} {R1 : Value → Array Value} {Z : Array Value} {u : List Bs} {c : Value} {L : Nat → Bool} {W W2 : World} (h : W43 w X R0 R1 Z u c L W) (hb : Below W.heap.size W W2) : W43 w X R0 R1 Z u c L W2 :=
  ⟨h.be.trans (hb.mono (by have := h.sz; omega)), Nat.le_trans h.sz hb.size, (hb.block _ (by have := h.sz; omega)).trans h.bx, (hb.block _ (by have := h.sz; omega)).trans h.rs, fun e => (h.own e).below hb (Nat.le_refl _), h.ord⟩
theorem W43.put {w : World} {X : Nat} {R0 : Array Value} {R1 : Value → Array Value} {Z : Array Value} {u : List Bs} {c : Value} {L : Nat → Bool} {W : World} (h : W43 w X R0 R1 Z u c L W) (vs : Array Value) (L' : Nat → Bool) (hv : vs = if L' 14 then R1 c else R0) (h8 : L' 8 = true → L 8 = true) (ho : L' 14 = true → L' 7 = true ∧ L' 8 = true) : W43 w X R0 R1 Z u c L' (W.setRow X vs) :=
  ⟨bel_set h.be X vs (Nat.le_refl _) (by have := h.sz; omega), by simpa using h.sz, by rw [← hv]; exact setRow_row h.bx, row_set h.rs (by omega), fun e => own_set (h.own (h8 e)) X vs (by omega), ho⟩

/-- A family in memory of its own. -/
def OutF (w : World) (u : List Bs) (R : Value → Array Value) (e : Ending) (w' : World) : Prop := ∃ a cap, e = .returned (.agg (R (.slice a u.length cap))) ∧ OwnS w.heap.size w' (.slice a u.length cap) u ∧ Below w.heap.size w w'
theorem ownFamily_any (id : Int) (cl su : Bs) (va : Option Addr) (vc : Nat) (sc : List Bs) (cr us idl ab gr ge tk st en co : Int) (w : World) (hc : cl.length ≤ 1000) (hu : su.length ≤ 1000) (hsc : Sts w va sc.length sc) (hs : Shn sc) : Calls Tryz.prog 43 #[.agg #[I id, S cl, S su, .slice va sc.length vc, I cr, I us, I idl, I ab, I gr, I ge, I tk, I st, I en, I co]] w (OutF w sc fun v => #[I id, S cl, S su, v, I cr, I us, I idl, I ab, I gr, I ge, I tk, I st, I en, I co]) := by
  have hb : Below w.heap.size w ((w.alloc (.cells #[I id, S cl, S su, .slice va sc.length vc, I cr, I us, I idl, I ab, I gr, I ge, I tk, I st, I en, I co] 24)).alloc (.cells #[I 0, S [], S [], .slice none 0 0, I 0, I 0, I 0, I 0, I 0, I 0, I 0, I 0, I 0, I 0] 24)) := (((Below.refl _ w).alloc (by simp) _).alloc (by simp) _)
  have r0 : ((w.alloc (.cells #[I id, S cl, S su, .slice va sc.length vc, I cr, I us, I idl, I ab, I gr, I ge, I tk, I st, I en, I co] 24)).alloc (.cells #[I 0, S [], S [], .slice none 0 0, I 0, I 0, I 0, I 0, I 0, I 0, I 0, I 0, I 0, I 0] 24)).heap[w.heap.size]? = some (.cells #[I id, S cl, S su, .slice va sc.length vc, I cr, I us, I idl, I ab, I gr, I ge, I tk, I st, I en, I co] 24 (0, 0)) := al_old _ _ _ (by simp <;> omega) (al_new w (.cells #[I id, S cl, S su, .slice va sc.length vc, I cr, I us, I idl, I ab, I gr, I ge, I tk, I st, I en, I co] 24) (w.heap.size) (by simp))
  have r1 : ((w.alloc (.cells #[I id, S cl, S su, .slice va sc.length vc, I cr, I us, I idl, I ab, I gr, I ge, I tk, I st, I en, I co] 24)).alloc (.cells #[I 0, S [], S [], .slice none 0 0, I 0, I 0, I 0, I 0, I 0, I 0, I 0, I 0, I 0, I 0] 24)).heap[w.heap.size + 1]? = some (.cells #[I 0, S [], S [], .slice none 0 0, I 0, I 0, I 0, I 0, I 0, I 0, I 0, I 0, I 0, I 0] 24 (0, 0)) := al_new (w.alloc (.cells #[I id, S cl, S su, .slice va sc.length vc, I cr, I us, I idl, I ab, I gr, I ge, I tk, I st, I en, I co] 24)) (.cells #[I 0, S [], S [], .slice none 0 0, I 0, I 0, I 0, I 0, I 0, I 0, I 0, I 0, I 0, I 0] 24) (w.heap.size + 1) (by simp)
  generalize hW1 : ((w.alloc (.cells #[I id, S cl, S su, .slice va sc.length vc, I cr, I us, I idl, I ab, I gr, I ge, I tk, I st, I en, I co] 24)).alloc (.cells #[I 0, S [], S [], .slice none 0 0, I 0, I 0, I 0, I 0, I 0, I 0, I 0, I 0, I 0, I 0] 24)) = W1 at *
  have HB := hide hb
  have HR0 := hide r0
  have HR1 := hide r1
  clear hb r0 r1
  have HC := hide (fun W => clone_any cl W (by omega))
  have HU := hide (fun W => clone_any su W (by omega))
  have HN := hide (fun W (h : Below w.heap.size w W) => ownNames_any va sc.length vc sc W (hsc.below h) hs)
  clear hc hu hsc hs
  generalize hv0 : (Value.slice va sc.length vc) = v0 at *
  go_enter Tryz.func43, Tryz.ntmps43
  go_upto_region 1 with fail
  refine region_tab own43T [(1, ptr w.heap.size)] 16 [0, 3, 6, 9, 11, 13] (own43V w.heap.size cl su v0) rfl (by rfl) (by rfl) rfl (fun c w => by kernel_rfl) _ W1 (by simp) rfl (W43 w w.heap.size #[I id, S cl, S su, v0, I cr, I us, I idl, I ab, I gr, I ge, I tk, I st, I en, I co] (fun c => #[I id, S cl, S su, c, I cr, I us, I idl, I ab, I gr, I ge, I tk, I st, I en, I co]) #[I 0, S [], S [], .slice none 0 0, I 0, I 0, I 0, I 0, I 0, I 0, I 0, I 0, I 0, I 0] sc) ⟨undef, ⟨(unhide HB).drew, ?_, unhide HR0, unhide HR1, (fun e => by cases e), (fun e => by cases e)⟩⟩ (fun i hi c L W hW => hW.pure i (by intro e; subst e; simp at hi) (by intro e; subst e; simp at hi)) ?sp ?_
  · have := lt_of_row (unhide HR1)
    simp
    omega
  case sp =>
    intro i hi hp c L W hW hL hd
    rcases (by simp [own43T] at hi hp; omega : i = 1 ∨ i = 2 ∨ i = 4 ∨ i = 5 ∨ i = 7 ∨ i = 8 ∨ i = 10 ∨ i = 12 ∨ i = 14) with rfl | rfl | rfl | rfl | rfl | rfl | rfl | rfl | rfl
    · have hc : W.cell? ⟨w.heap.size, 1, none⟩ = some (S cl) := by
        have hbx := hW.bx
        cases q : L 14 <;> rw [q] at hbx
        · exact cellr hbx rfl
        · exact cellr hbx rfl
      have f1 : (Instr.loadAt 9 (.pointer (some ⟨w.heap.size, 1, none⟩))).run Tryz.prog W = .ok (S cl) W := s_ld (T := 9) (fun _ => by kernel_rfl) hc
      exact ⟨f1, hW.pure 1 (by decide) (by decide)⟩
    · exact ⟨⟨_, _, Tryz.func49, by kernel_rfl, rfl⟩, (unhide HC W).mono fun e w' q => ⟨c, fun _ _ => rfl, q.1, (hW.call q.2).pure 2 (by decide) (by decide)⟩⟩
    · have hc : W.cell? ⟨w.heap.size, 2, none⟩ = some (S su) := by
        have hbx := hW.bx
        cases q : L 14 <;> rw [q] at hbx
        · exact cellr hbx rfl
        · exact cellr hbx rfl
      have f1 : (Instr.loadAt 9 (.pointer (some ⟨w.heap.size, 2, none⟩))).run Tryz.prog W = .ok (S su) W := s_ld (T := 9) (fun _ => by kernel_rfl) hc
      exact ⟨f1, hW.pure 4 (by decide) (by decide)⟩
    · exact ⟨⟨_, _, Tryz.func49, by kernel_rfl, rfl⟩, (unhide HU W).mono fun e w' q => ⟨c, fun _ _ => rfl, q.1, (hW.call q.2).pure 5 (by decide) (by decide)⟩⟩
    · have h14 : L 14 = false := by cases q : L 14 with | false => rfl | true => rw [(hW.ord q).1] at hL; cases hL
      have hbx := hW.bx
      rw [h14] at hbx
      have f1 : (Instr.loadAt 22 (.pointer (some ⟨w.heap.size, 3, none⟩))).run Tryz.prog W = .ok v0 W := s_ld (T := 22) (fun _ => by kernel_rfl) (cellr hbx rfl)
      exact ⟨f1, hW.pure 7 (by decide) (by decide)⟩
    · have h14 : L 14 = false := by cases q : L 14 with | false => rfl | true => rw [(hW.ord q).2] at hL; cases hL
      have hq : Calls Tryz.prog 50 #[v0] W (OutO W sc) := unhide HN W hW.be
      refine ⟨⟨_, _, Tryz.func50, by kernel_rfl, rfl⟩, hq.mono fun e w' q => ?_⟩
      obtain ⟨a, cap, q1, q2, q3⟩ := q
      have h2 := hW.call q3
      have hbx := h2.bx
      rw [h14] at hbx
      exact ⟨.slice a sc.length cap, fun j hj => own43V_ne (by intro e; subst e; rw [hL] at hj; cases hj), q1, ⟨h2.be, h2.sz, by rw [upd_ne (by decide), h14]; exact hbx, h2.rs, fun _ => q2.below (Below.refl _ _) hW.sz, fun e => by rw [upd_ne (by decide), h14] at e; cases e⟩⟩
    · have f1 : (Instr.storeAt 9 (.pointer (some ⟨w.heap.size, 1, none⟩)) (S cl)).run Tryz.prog W = .ok () (W.setRow w.heap.size (if L 14 then (fun c => #[I id, S cl, S su, c, I cr, I us, I idl, I ab, I gr, I ge, I tk, I st, I en, I co]) c else #[I id, S cl, S su, v0, I cr, I us, I idl, I ab, I gr, I ge, I tk, I st, I en, I co])) := by
        have hbx := hW.bx
        cases q : L 14 <;> rw [q] at hbx
        · exact st_cell (T := 9) (fun _ => by kernel_rfl) (cs := #[I id, S cl, S su, v0, I cr, I us, I idl, I ab, I gr, I ge, I tk, I st, I en, I co]) hbx (by simp) (S cl) rfl rfl #[I id, S cl, S su, v0, I cr, I us, I idl, I ab, I gr, I ge, I tk, I st, I en, I co] rfl
        · exact st_cell (T := 9) (fun _ => by kernel_rfl) (cs := #[I id, S cl, S su, c, I cr, I us, I idl, I ab, I gr, I ge, I tk, I st, I en, I co]) hbx (by simp) (S cl) rfl rfl #[I id, S cl, S su, c, I cr, I us, I idl, I ab, I gr, I ge, I tk, I st, I en, I co] rfl
      exact ⟨rfl, _, f1, (hW.put _ L rfl (fun e => e) hW.ord).pure 10 (by decide) (by decide)⟩
    · have f1 : (Instr.storeAt 9 (.pointer (some ⟨w.heap.size, 2, none⟩)) (S su)).run Tryz.prog W = .ok () (W.setRow w.heap.size (if L 14 then (fun c => #[I id, S cl, S su, c, I cr, I us, I idl, I ab, I gr, I ge, I tk, I st, I en, I co]) c else #[I id, S cl, S su, v0, I cr, I us, I idl, I ab, I gr, I ge, I tk, I st, I en, I co])) := by
        have hbx := hW.bx
        cases q : L 14 <;> rw [q] at hbx
        · exact st_cell (T := 9) (fun _ => by kernel_rfl) (cs := #[I id, S cl, S su, v0, I cr, I us, I idl, I ab, I gr, I ge, I tk, I st, I en, I co]) hbx (by simp) (S su) rfl rfl #[I id, S cl, S su, v0, I cr, I us, I idl, I ab, I gr, I ge, I tk, I st, I en, I co] rfl
        · exact st_cell (T := 9) (fun _ => by kernel_rfl) (cs := #[I id, S cl, S su, c, I cr, I us, I idl, I ab, I gr, I ge, I tk, I st, I en, I co]) hbx (by simp) (S su) rfl rfl #[I id, S cl, S su, c, I cr, I us, I idl, I ab, I gr, I ge, I tk, I st, I en, I co] rfl
      exact ⟨rfl, _, f1, (hW.put _ L rfl (fun e => e) hW.ord).pure 12 (by decide) (by decide)⟩
    · have h8 : L 8 = true := hd 8 (by rfl)
      have h7 : L 7 = true := hd 7 (by rfl)
      have hbx := hW.bx
      rw [hL] at hbx
      have f1 : (Instr.storeAt 22 (.pointer (some ⟨w.heap.size, 3, none⟩)) c).run Tryz.prog W = .ok () (W.setRow w.heap.size #[I id, S cl, S su, c, I cr, I us, I idl, I ab, I gr, I ge, I tk, I st, I en, I co]) := by
        obtain ⟨a, cap, rfl⟩ := (hW.own h8).form
        exact st_cell (T := 22) (fun _ => by kernel_rfl) (cs := #[I id, S cl, S su, v0, I cr, I us, I idl, I ab, I gr, I ge, I tk, I st, I en, I co]) hbx (by simp) (.slice a sc.length cap) rfl rfl #[I id, S cl, S su, .slice a sc.length cap, I cr, I us, I idl, I ab, I gr, I ge, I tk, I st, I en, I co] rfl
      exact ⟨rfl, _, f1, hW.put _ (upd L 14) (by rw [upd_eq]; rfl) (fun _ => h8) (fun _ => ⟨upd_of h7, upd_of h8⟩)⟩
  intro c L W hall hW
  simp only [frmL, own43T, own43V, Act.put, List.setIfInBounds_toArray, List.set_cons_succ, List.set_cons_zero]
  have HW := hide hW
  have h8 : L 8 = true := hall 8 (by decide)
  have h14 : L 14 = true := hall 14 (by decide)
  have hbx := hW.bx
  rw [h14] at hbx
  obtain ⟨a, cap, rfl⟩ := (hW.own h8).form
  have c0 : W.cell? ⟨w.heap.size, 0, none⟩ = some (I id) := cellr hbx rfl
  have c1 : W.cell? ⟨w.heap.size, 1, none⟩ = some (S cl) := cellr hbx rfl
  have c2 : W.cell? ⟨w.heap.size, 2, none⟩ = some (S su) := cellr hbx rfl
  have c3 : W.cell? ⟨w.heap.size, 3, none⟩ = some (.slice a sc.length cap) := cellr hbx rfl
  have c4 : W.cell? ⟨w.heap.size, 4, none⟩ = some (I cr) := cellr hbx rfl
  have c5 : W.cell? ⟨w.heap.size, 5, none⟩ = some (I us) := cellr hbx rfl
  have c6 : W.cell? ⟨w.heap.size, 6, none⟩ = some (I idl) := cellr hbx rfl
  have c7 : W.cell? ⟨w.heap.size, 7, none⟩ = some (I ab) := cellr hbx rfl
  have c8 : W.cell? ⟨w.heap.size, 8, none⟩ = some (I gr) := cellr hbx rfl
  have c9 : W.cell? ⟨w.heap.size, 9, none⟩ = some (I ge) := cellr hbx rfl
  have c10 : W.cell? ⟨w.heap.size, 10, none⟩ = some (I tk) := cellr hbx rfl
  have c11 : W.cell? ⟨w.heap.size, 11, none⟩ = some (I st) := cellr hbx rfl
  have c12 : W.cell? ⟨w.heap.size, 12, none⟩ = some (I en) := cellr hbx rfl
  have c13 : W.cell? ⟨w.heap.size, 13, none⟩ = some (I co) := cellr hbx rfl
  have hRS := hide hW.rs
  have HO := hide (hW.own h8)
  have HBE := hide hW.be
  have HSZ := hide hW.sz
  clear hbx hW h8 h14 hall HC HU HN HB HR0 HR1 HW hv0
  go_wp2_with (refine wp_stA inf24 rfl (.tmp 2) (.tmp 15) rfl (w.heap.size + 1) (by rfl) #[I id, S cl, S su, .slice a sc.length cap, I cr, I us, I idl, I ab, I gr, I ge, I tk, I st, I en, I co] (by rfl) #[I 0, S [], S [], .slice none 0 0, I 0, I 0, I 0, I 0, I 0, I 0, I 0, I 0, I 0, I 0] rfl rfl (unhide hRS) (by simp [Value.oneCell']) ?_)
  refine out1c (T := 24) (n := 14) (p := 2) (cs := #[I id, S cl, S su, .slice a sc.length cap, I cr, I us, I idl, I ab, I gr, I ge, I tk, I st, I en, I co]) (fun _ => by kernel_rfl) (fun _ => by kernel_rfl) (Z := w.heap.size + 1) (by rfl) (by rfl) (by rfl) (setRow_row (unhide hRS)) (by rfl) ?_
  exact ⟨a, cap, rfl, (own_set (unhide HO) _ _ (by omega)).below (Below.refl _ _) (by omega), bel_set (unhide HBE) _ _ (by omega) (unhide HBE).size⟩
end Go.Proofs.YtmjaobddgaglhaaGreatDoor
/- Tokens. -/
namespace Go.Proofs.YtmjaobddgaglhaaGreatDoor
open Go.RowKit
set_option maxHeartbeats 4000000
set_option maxRecDepth 8000
theorem st_all {T : TypeId} {n : Nat} (hs : ∀ w, (sizeOf T).run Tryz.prog w = .ok n w) {W : World} {g : Nat} {cs : Array Value} {t : TypeId} (hg : W.heap[g]? = some (.cells cs t (0, 0))) (hn : cs.size = n) (vs : Array Value) (hv : vs.size = n) (h1 : vs.all (·.oneCell') = true) : (Instr.storeAt T (.pointer (some ⟨g, 0, none⟩)) (.agg vs)).run Tryz.prog W = .ok () (W.setRow g vs) := by
  have hc : (Value.agg vs).cells = vs := rfl
  have e := s_sta (w := W) hs hg (o := 0) (.agg vs) (by rw [hc, hv]) (by omega) (by rw [hc]; intro x hx; exact (Array.all_eq_true_iff_forall_mem.1 h1) x (by simpa using hx))
  rw [e, hc]
  congr 2
  apply Array.ext'
  simp [hn]
def own44T : List (Op × Option Tmp × Option (Nat × Bool)) := [
  (.fieldAddr 26 (.tmp 1) 3, some 3, none),
  (.load 9 (.tmp 3), some 4, none),
  (.call { callee := .value (.func 49), args := #[(.tmp 4)], argTypes := #[9] }, some 5, none),
  (.fieldAddr 26 (.tmp 1) 8, some 6, none),
  (.load 9 (.tmp 6), some 7, none),
  (.call { callee := .value (.func 49), args := #[(.tmp 7)], argTypes := #[9] }, some 8, none),
  (.fieldAddr 26 (.tmp 1) 3, some 9, none),
  (.store 9 (.tmp 9) (.tmp 5), none, none),
  (.fieldAddr 26 (.tmp 1) 8, some 10, none),
  (.store 9 (.tmp 10) (.tmp 8), none, none)]
def own44V (X : Nat) (ha se : Bs) (_ : Unit) : Nat → Value
  | 0 => .pointer (some ⟨X, 3, none⟩)
  | 1 => S ha
  | 2 => S ha
  | 3 => .pointer (some ⟨X, 8, none⟩)
  | 4 => S se
  | 5 => S se
  | 6 => .pointer (some ⟨X, 3, none⟩)
  | 7 => undef
  | 8 => .pointer (some ⟨X, 8, none⟩)
  | _ => undef
theorem ownToken_any (ti fa tg : Int) (ha : Bs) (mi : Int) (sp : Bool) (at9 ne : Int) (se : Bs) (w : World) (hh : ha.length ≤ 1000) (hs : se.length ≤ 1000) : Calls Tryz.prog 44 #[.agg #[I ti, I fa, I tg, S ha, I mi, .bool sp, I at9, I ne, S se]] w fun e w' => e = .returned (.agg #[I ti, I fa, I tg, S ha, I mi, .bool sp, I at9, I ne, S se]) ∧ Below w.heap.size w w' := by
  have hb : Below w.heap.size w ((w.alloc (.cells #[I ti, I fa, I tg, S ha, I mi, .bool sp, I at9, I ne, S se] 26)).alloc (.cells #[I 0, I 0, I 0, S [], I 0, .bool false, I 0, I 0, S []] 26)) := (((Below.refl _ w).alloc (by simp) _).alloc (by simp) _)
  have r0 : ((w.alloc (.cells #[I ti, I fa, I tg, S ha, I mi, .bool sp, I at9, I ne, S se] 26)).alloc (.cells #[I 0, I 0, I 0, S [], I 0, .bool false, I 0, I 0, S []] 26)).heap[w.heap.size]? = some (.cells #[I ti, I fa, I tg, S ha, I mi, .bool sp, I at9, I ne, S se] 26 (0, 0)) := al_old _ _ _ (by simp <;> omega) (al_new w (.cells #[I ti, I fa, I tg, S ha, I mi, .bool sp, I at9, I ne, S se] 26) (w.heap.size) (by simp))
  have r1 : ((w.alloc (.cells #[I ti, I fa, I tg, S ha, I mi, .bool sp, I at9, I ne, S se] 26)).alloc (.cells #[I 0, I 0, I 0, S [], I 0, .bool false, I 0, I 0, S []] 26)).heap[w.heap.size + 1]? = some (.cells #[I 0, I 0, I 0, S [], I 0, .bool false, I 0, I 0, S []] 26 (0, 0)) := al_new (w.alloc (.cells #[I ti, I fa, I tg, S ha, I mi, .bool sp, I at9, I ne, S se] 26)) (.cells #[I 0, I 0, I 0, S [], I 0, .bool false, I 0, I 0, S []] 26) (w.heap.size + 1) (by simp)
  generalize hW1 : ((w.alloc (.cells #[I ti, I fa, I tg, S ha, I mi, .bool sp, I at9, I ne, S se] 26)).alloc (.cells #[I 0, I 0, I 0, S [], I 0, .bool false, I 0, I 0, S []] 26)) = W1 at *
  have HB := hide hb
  have HR0 := hide r0
  have HR1 := hide r1
  clear hb r0 r1
  have HC := hide (fun W => clone_any ha W (by omega))
  have HU := hide (fun W => clone_any se W (by omega))
  clear hh hs
  go_enter Tryz.func44, Tryz.ntmps44
  go_upto_region 1 with fail
  refine region_tab own44T [(1, ptr w.heap.size)] 12 [0, 3, 6, 8] (own44V w.heap.size ha se) rfl (by rfl) (by rfl) rfl (fun c w => by kernel_rfl) _ W1 (by simp) rfl (fun _ _ W => Below w.heap.size w W ∧ W.heap[w.heap.size]? = some (.cells #[I ti, I fa, I tg, S ha, I mi, .bool sp, I at9, I ne, S se] 26 (0, 0)) ∧ W.heap[w.heap.size + 1]? = some (.cells #[I 0, I 0, I 0, S [], I 0, .bool false, I 0, I 0, S []] 26 (0, 0))) ⟨(), (unhide HB).drew, unhide HR0, unhide HR1⟩ (fun i hi c L W hW => hW) ?sp ?_
  case sp =>
    intro i hi hp c L W hW hL hd
    have hcall : ∀ w2, Below W.heap.size W w2 → Below w.heap.size w w2 ∧ w2.heap[w.heap.size]? = some (.cells #[I ti, I fa, I tg, S ha, I mi, .bool sp, I at9, I ne, S se] 26 (0, 0)) ∧ w2.heap[w.heap.size + 1]? = some (.cells #[I 0, I 0, I 0, S [], I 0, .bool false, I 0, I 0, S []] 26 (0, 0)) := fun w2 q => ⟨hW.1.trans (q.mono hW.1.size), (q.block _ (lt_of_row hW.2.1)).trans hW.2.1, (q.block _ (lt_of_row hW.2.2)).trans hW.2.2⟩
    have hset : Below w.heap.size w (W.setRow w.heap.size #[I ti, I fa, I tg, S ha, I mi, .bool sp, I at9, I ne, S se]) ∧ (W.setRow w.heap.size #[I ti, I fa, I tg, S ha, I mi, .bool sp, I at9, I ne, S se]).heap[w.heap.size]? = some (.cells #[I ti, I fa, I tg, S ha, I mi, .bool sp, I at9, I ne, S se] 26 (0, 0)) ∧ (W.setRow w.heap.size #[I ti, I fa, I tg, S ha, I mi, .bool sp, I at9, I ne, S se]).heap[w.heap.size + 1]? = some (.cells #[I 0, I 0, I 0, S [], I 0, .bool false, I 0, I 0, S []] 26 (0, 0)) := ⟨bel_set hW.1 _ _ (Nat.le_refl _) hW.1.size, setRow_row hW.2.1, row_set hW.2.2 (by omega)⟩
    rcases (by simp [own44T] at hi hp; omega : i = 1 ∨ i = 2 ∨ i = 4 ∨ i = 5 ∨ i = 7 ∨ i = 9) with rfl | rfl | rfl | rfl | rfl | rfl
    · have f1 : (Instr.loadAt 9 (.pointer (some ⟨w.heap.size, 3, none⟩))).run Tryz.prog W = .ok (S ha) W := s_ld (T := 9) (fun _ => by kernel_rfl) (cellr hW.2.1 rfl)
      exact ⟨f1, hW⟩
    · exact ⟨⟨_, _, Tryz.func49, by kernel_rfl, rfl⟩, (unhide HC W).mono fun e w' q => ⟨c, fun _ _ => rfl, q.1, hcall w' q.2⟩⟩
    · have f1 : (Instr.loadAt 9 (.pointer (some ⟨w.heap.size, 8, none⟩))).run Tryz.prog W = .ok (S se) W := s_ld (T := 9) (fun _ => by kernel_rfl) (cellr hW.2.1 rfl)
      exact ⟨f1, hW⟩
    · exact ⟨⟨_, _, Tryz.func49, by kernel_rfl, rfl⟩, (unhide HU W).mono fun e w' q => ⟨c, fun _ _ => rfl, q.1, hcall w' q.2⟩⟩
    · have f1 : (Instr.storeAt 9 (.pointer (some ⟨w.heap.size, 3, none⟩)) (S ha)).run Tryz.prog W = .ok () (W.setRow w.heap.size #[I ti, I fa, I tg, S ha, I mi, .bool sp, I at9, I ne, S se]) := st_cell (T := 9) (fun _ => by kernel_rfl) hW.2.1 (by simp) (S ha) rfl rfl #[I ti, I fa, I tg, S ha, I mi, .bool sp, I at9, I ne, S se] rfl
      exact ⟨rfl, _, f1, hset⟩
    · have f1 : (Instr.storeAt 9 (.pointer (some ⟨w.heap.size, 8, none⟩)) (S se)).run Tryz.prog W = .ok () (W.setRow w.heap.size #[I ti, I fa, I tg, S ha, I mi, .bool sp, I at9, I ne, S se]) := st_cell (T := 9) (fun _ => by kernel_rfl) hW.2.1 (by simp) (S se) rfl rfl #[I ti, I fa, I tg, S ha, I mi, .bool sp, I at9, I ne, S se] rfl
      exact ⟨rfl, _, f1, hset⟩
  intro c L W hall hW
  simp only [frmL, own44T, own44V, Act.put, List.setIfInBounds_toArray, List.set_cons_succ, List.set_cons_zero]
  obtain ⟨hb, h1, h2⟩ := hW
  have c0 : W.cell? ⟨w.heap.size, 0, none⟩ = some (I ti) := cellr h1 rfl
  have c1 : W.cell? ⟨w.heap.size, 1, none⟩ = some (I fa) := cellr h1 rfl
  have c2 : W.cell? ⟨w.heap.size, 2, none⟩ = some (I tg) := cellr h1 rfl
  have c3 : W.cell? ⟨w.heap.size, 3, none⟩ = some (S ha) := cellr h1 rfl
  have c4 : W.cell? ⟨w.heap.size, 4, none⟩ = some (I mi) := cellr h1 rfl
  have c5 : W.cell? ⟨w.heap.size, 5, none⟩ = some (.bool sp) := cellr h1 rfl
  have c6 : W.cell? ⟨w.heap.size, 6, none⟩ = some (I at9) := cellr h1 rfl
  have c7 : W.cell? ⟨w.heap.size, 7, none⟩ = some (I ne) := cellr h1 rfl
  have c8 : W.cell? ⟨w.heap.size, 8, none⟩ = some (S se) := cellr h1 rfl
  have HBE := hide hb
  have hRS := hide h2
  clear hb h1 h2 hall HC HU HB HR0 HR1
  go_wp2_with (refine wp_stA inf26 rfl (.tmp 2) (.tmp 11) rfl (w.heap.size + 1) (by rfl) #[I ti, I fa, I tg, S ha, I mi, .bool sp, I at9, I ne, S se] (by rfl) #[I 0, I 0, I 0, S [], I 0, .bool false, I 0, I 0, S []] rfl rfl (unhide hRS) (by simp [Value.oneCell']) ?_)
  refine out1c (T := 26) (n := 9) (p := 2) (cs := #[I ti, I fa, I tg, S ha, I mi, .bool sp, I at9, I ne, S se]) (fun _ => by kernel_rfl) (fun _ => by kernel_rfl) (Z := w.heap.size + 1) (by rfl) (by rfl) (by rfl) (setRow_row (unhide hRS)) (by rfl) ?_
  exact ⟨rfl, bel_set (unhide HBE) _ _ (by omega) (unhide HBE).size⟩
/-- The token that a family names as its current one. -/
def curOK (tk : Int) (s : Bs) : Bool := idn tk && s.length == 24
def hsh (tk : Int) (s : Bs) : Bs := Sha.sum (tkn 1 tk.toNat s)
def crt (id ge tk us : Int) (s : Bs) : Array Value × Int := if curOK tk s then (#[I tk, I id, I ge, S (hsh tk s), I us, .bool false, I 0, I 0, S []], 0) else (#[I 0, I 0, I 0, S [], I 0, .bool false, I 0, I 0, S []], 1)
theorem mnt_cur (tk : Int) (s : Bs) : mnt 1 tk s = if curOK tk s then (tkn 1 tk.toNat s, 0) else ([], 1) := by
  unfold mnt curOK idn
  by_cases h1 : 1 ≤ tk <;> by_cases h2 : tk ≤ 4611686018427387904 <;> by_cases h3 : s.length = 24 <;> simp [h1, h2, h3]
def cur42T : List (Op × Option Tmp × Option (Nat × Bool)) := [
  (.fieldAddr 24 (.tmp 2) 10, some 19, none),
  (.load 3 (.tmp 19), some 20, none),
  (.fieldAddr 24 (.tmp 2) 0, some 21, none),
  (.load 3 (.tmp 21), some 22, none),
  (.fieldAddr 24 (.tmp 2) 9, some 23, none),
  (.load 3 (.tmp 23), some 24, none),
  (.move (.tmp 6), some 25, none),
  (.call { callee := .value (.func 57), args := #[(.tmp 25)], argTypes := #[9] }, some 26, none),
  (.fieldAddr 24 (.tmp 2) 5, some 27, none),
  (.load 3 (.tmp 27), some 28, none),
  (.build 26 #[(0, (.tmp 20)), (1, (.tmp 22)), (2, (.tmp 24)), (3, (.tmp 26)), (4, (.tmp 28))], some 29, none),
  (.store 26 (.tmp 4) (.tmp 29), none, none),
  (.assign (.const (I 0)), some 5, none)]
def cur42V (X : Nat) (id ge tk us : Int) (t h : Bs) (_ : Unit) : Nat → Value
  | 0 => .pointer (some ⟨X, 10, none⟩)
  | 1 => I tk
  | 2 => .pointer (some ⟨X, 0, none⟩)
  | 3 => I id
  | 4 => .pointer (some ⟨X, 9, none⟩)
  | 5 => I ge
  | 6 => S t
  | 7 => S h
  | 8 => .pointer (some ⟨X, 5, none⟩)
  | 9 => I us
  | 10 => .agg #[I tk, I id, I ge, S h, I us, .bool false, I 0, I 0, S []]
  | 11 => undef
  | 12 => I 0
  | _ => undef
theorem current_any (id : Int) (cl su : Bs) (va : Option Addr) (vc : Nat) (sc : List Bs) (cr us idl ab gr ge tk st en co : Int) (s : Bs) (w : World) : Calls Tryz.prog 42 #[.agg #[I id, S cl, S su, .slice va sc.length vc, I cr, I us, I idl, I ab, I gr, I ge, I tk, I st, I en, I co], S s] w fun e w' => e = .returned (.tuple #[.agg (crt id ge tk us s).1, I (crt id ge tk us s).2]) ∧ Below w.heap.size w w' := by
  have hb : Below w.heap.size w ((w.alloc (.cells #[I id, S cl, S su, .slice va sc.length vc, I cr, I us, I idl, I ab, I gr, I ge, I tk, I st, I en, I co] 24)).alloc (.cells #[I 0, I 0, I 0, S [], I 0, .bool false, I 0, I 0, S []] 26)) := (((Below.refl _ w).alloc (by simp) _).alloc (by simp) _)
  have r0 : ((w.alloc (.cells #[I id, S cl, S su, .slice va sc.length vc, I cr, I us, I idl, I ab, I gr, I ge, I tk, I st, I en, I co] 24)).alloc (.cells #[I 0, I 0, I 0, S [], I 0, .bool false, I 0, I 0, S []] 26)).heap[w.heap.size]? = some (.cells #[I id, S cl, S su, .slice va sc.length vc, I cr, I us, I idl, I ab, I gr, I ge, I tk, I st, I en, I co] 24 (0, 0)) := al_old _ _ _ (by simp <;> omega) (al_new w (.cells #[I id, S cl, S su, .slice va sc.length vc, I cr, I us, I idl, I ab, I gr, I ge, I tk, I st, I en, I co] 24) (w.heap.size) (by simp))
  have r1 : ((w.alloc (.cells #[I id, S cl, S su, .slice va sc.length vc, I cr, I us, I idl, I ab, I gr, I ge, I tk, I st, I en, I co] 24)).alloc (.cells #[I 0, I 0, I 0, S [], I 0, .bool false, I 0, I 0, S []] 26)).heap[w.heap.size + 1]? = some (.cells #[I 0, I 0, I 0, S [], I 0, .bool false, I 0, I 0, S []] 26 (0, 0)) := al_new (w.alloc (.cells #[I id, S cl, S su, .slice va sc.length vc, I cr, I us, I idl, I ab, I gr, I ge, I tk, I st, I en, I co] 24)) (.cells #[I 0, I 0, I 0, S [], I 0, .bool false, I 0, I 0, S []] 26) (w.heap.size + 1) (by simp)
  generalize hW1 : ((w.alloc (.cells #[I id, S cl, S su, .slice va sc.length vc, I cr, I us, I idl, I ab, I gr, I ge, I tk, I st, I en, I co] 24)).alloc (.cells #[I 0, I 0, I 0, S [], I 0, .bool false, I 0, I 0, S []] 26)) = W1 at *
  have c0_0 : W1.cell? ⟨w.heap.size, 0, none⟩ = some (I id) := cellr r0 rfl
  have c0_1 : W1.cell? ⟨w.heap.size, 1, none⟩ = some (S cl) := cellr r0 rfl
  have c0_2 : W1.cell? ⟨w.heap.size, 2, none⟩ = some (S su) := cellr r0 rfl
  have c0_3 : W1.cell? ⟨w.heap.size, 3, none⟩ = some (.slice va sc.length vc) := cellr r0 rfl
  have c0_4 : W1.cell? ⟨w.heap.size, 4, none⟩ = some (I cr) := cellr r0 rfl
  have c0_5 : W1.cell? ⟨w.heap.size, 5, none⟩ = some (I us) := cellr r0 rfl
  have c0_6 : W1.cell? ⟨w.heap.size, 6, none⟩ = some (I idl) := cellr r0 rfl
  have c0_7 : W1.cell? ⟨w.heap.size, 7, none⟩ = some (I ab) := cellr r0 rfl
  have c0_8 : W1.cell? ⟨w.heap.size, 8, none⟩ = some (I gr) := cellr r0 rfl
  have c0_9 : W1.cell? ⟨w.heap.size, 9, none⟩ = some (I ge) := cellr r0 rfl
  have c0_10 : W1.cell? ⟨w.heap.size, 10, none⟩ = some (I tk) := cellr r0 rfl
  have c0_11 : W1.cell? ⟨w.heap.size, 11, none⟩ = some (I st) := cellr r0 rfl
  have c0_12 : W1.cell? ⟨w.heap.size, 12, none⟩ = some (I en) := cellr r0 rfl
  have c0_13 : W1.cell? ⟨w.heap.size, 13, none⟩ = some (I co) := cellr r0 rfl
  have HB := hide hb
  have HR0 := hide r0
  have HR1 := hide r1
  clear hb r0 r1
  have HM := hide (fun W => mint_any 1 tk s W)
  have HD := hide (mnt_cur tk s)
  have HH := hide (fun W => hash_any (tkn 1 tk.toNat s) W)
  have HT : Hid (curOK tk s = true → (tkn 1 tk.toNat s).length = 52) := hide (fun h => tkn_len _ _ _ (by simp [curOK] at h; exact h.2))
  have HE : Hid (crt id ge tk us s = if curOK tk s then (#[I tk, I id, I ge, S (Sha.sum (tkn 1 tk.toNat s)), I us, .bool false, I 0, I 0, S []], 0) else (#[I 0, I 0, I 0, S [], I 0, .bool false, I 0, I 0, S []], 1)) := hide rfl
  generalize crt id ge tk us s = R at *
  generalize curOK tk s = ok at *
  generalize Sha.sum (tkn 1 tk.toNat s) = h at *
  generalize tkn 1 tk.toNat s = t at *
  generalize mnt 1 tk s = M at *
  cases ok
  · have hM : M = ([], 1) := unhide HD
    subst hM
    have hR : Hid (R = (#[I 0, I 0, I 0, S [], I 0, .bool false, I 0, I 0, S []], 1)) := hide (unhide HE)
    clear HD HE HT
    clear HH
    go_enter Tryz.func42, Tryz.ntmps42
    go_wp2_with fail
    refine (unhide HM W1).mono ?_
    rintro e w2 ⟨rfl, h2⟩
    have hbB := (unhide HB).trans (h2.mono (unhide HB).size)
    have r0 := (h2.block _ (lt_of_row (unhide HR0))).trans (unhide HR0)
    have r1 := (h2.block _ (lt_of_row (unhide HR1))).trans (unhide HR1)
    clear h2 HB HR0 HR1 c0_0 c0_1 c0_2 c0_3 c0_4 c0_5 c0_6 c0_7 c0_8 c0_9 c0_10 c0_11 c0_12 c0_13 hW1
    have HB := hide hbB
    have HR0 := hide r0
    have HR1 := hide r1
    clear hbB r0 r1
    clear HM
    go_wp2_with (refine wp_stA inf26 rfl (.tmp 4) (.tmp 17) rfl (w.heap.size + 1) (by rfl) #[I 0, I 0, I 0, S [], I 0, .bool false, I 0, I 0, S []] (by rfl) #[I 0, I 0, I 0, S [], I 0, .bool false, I 0, I 0, S []] rfl rfl (unhide HR1) (by simp [Value.oneCell']) ?_)
    refine out2c (T := 26) (n := 9) (p := 4) (q := 5) (cs := #[I 0, I 0, I 0, S [], I 0, .bool false, I 0, I 0, S []]) (fun _ => by kernel_rfl) (fun _ => by kernel_rfl) (Z := w.heap.size + 1) (by rfl) (by rfl) (by rfl) (by rfl) (setRow_row (unhide HR1)) (by rfl) ?_
    rw [unhide hR]
    exact ⟨rfl, bel_set (unhide HB) _ _ (by omega) (unhide HB).size⟩
  · have hM : M = (t, 0) := unhide HD
    subst hM
    have hR : Hid (R = (#[I tk, I id, I ge, S h, I us, .bool false, I 0, I 0, S []], 0)) := hide (unhide HE)
    have hl : t.length = 52 := unhide HT rfl
    clear HD HE HT
    go_enter Tryz.func42, Tryz.ntmps42
    go_wp2_with fail
    refine (unhide HM W1).mono ?_
    rintro e w2 ⟨rfl, h2⟩
    have hbB := (unhide HB).trans (h2.mono (unhide HB).size)
    have r0 := (h2.block _ (lt_of_row (unhide HR0))).trans (unhide HR0)
    have r1 := (h2.block _ (lt_of_row (unhide HR1))).trans (unhide HR1)
    clear h2 HB HR0 HR1 c0_0 c0_1 c0_2 c0_3 c0_4 c0_5 c0_6 c0_7 c0_8 c0_9 c0_10 c0_11 c0_12 c0_13 hW1
    have HB := hide hbB
    have HR0 := hide r0
    have HR1 := hide r1
    clear hbB r0 r1
    clear HM
    go_upto_region 4 with fail
    refine region_tab cur42T [(2, ptr w.heap.size), (4, ptr (w.heap.size + 1)), (6, S t)] 30 [0, 2, 4, 6, 8, 10, 12] (cur42V w.heap.size id ge tk us t h) rfl (by rfl) (by rfl) rfl (fun c w => by kernel_rfl) _ w2 (by simp) rfl (fun _ L W => Below w.heap.size w W ∧ W.heap[w.heap.size]? = some (.cells #[I id, S cl, S su, .slice va sc.length vc, I cr, I us, I idl, I ab, I gr, I ge, I tk, I st, I en, I co] 24 (0, 0)) ∧ W.heap[w.heap.size + 1]? = some (.cells (if L 11 then #[I tk, I id, I ge, S h, I us, .bool false, I 0, I 0, S []] else #[I 0, I 0, I 0, S [], I 0, .bool false, I 0, I 0, S []]) 26 (0, 0))) ⟨(), (unhide HB).drew, unhide HR0, unhide HR1⟩ (fun i hi c L W hW => ⟨hW.1, hW.2.1, by rw [upd_ne (by intro e; subst e; simp at hi)]; exact hW.2.2⟩) ?sp ?_
    case sp =>
      intro i hi hp c L W hW hL hd
      rcases (by simp [cur42T] at hi hp; omega : i = 1 ∨ i = 3 ∨ i = 5 ∨ i = 7 ∨ i = 9 ∨ i = 11) with rfl | rfl | rfl | rfl | rfl | rfl
      · have f1 : (Instr.loadAt 3 (.pointer (some ⟨w.heap.size, 10, none⟩))).run Tryz.prog W = .ok (I tk) W := s_ld (T := 3) (fun _ => by kernel_rfl) (cellr hW.2.1 rfl)
        exact ⟨f1, hW.1, hW.2.1, by rw [upd_ne (by decide)]; exact hW.2.2⟩
      · have f1 : (Instr.loadAt 3 (.pointer (some ⟨w.heap.size, 0, none⟩))).run Tryz.prog W = .ok (I id) W := s_ld (T := 3) (fun _ => by kernel_rfl) (cellr hW.2.1 rfl)
        exact ⟨f1, hW.1, hW.2.1, by rw [upd_ne (by decide)]; exact hW.2.2⟩
      · have f1 : (Instr.loadAt 3 (.pointer (some ⟨w.heap.size, 9, none⟩))).run Tryz.prog W = .ok (I ge) W := s_ld (T := 3) (fun _ => by kernel_rfl) (cellr hW.2.1 rfl)
        exact ⟨f1, hW.1, hW.2.1, by rw [upd_ne (by decide)]; exact hW.2.2⟩
      · exact ⟨⟨_, _, Tryz.func57, by kernel_rfl, rfl⟩, (unhide HH W (by omega)).mono fun e w' q => ⟨c, fun _ _ => rfl, q.1, hW.1.trans (q.2.mono hW.1.size), (q.2.block _ (lt_of_row hW.2.1)).trans hW.2.1, by rw [upd_ne (by decide)]; exact (q.2.block _ (lt_of_row hW.2.2)).trans hW.2.2⟩⟩
      · have f1 : (Instr.loadAt 3 (.pointer (some ⟨w.heap.size, 5, none⟩))).run Tryz.prog W = .ok (I us) W := s_ld (T := 3) (fun _ => by kernel_rfl) (cellr hW.2.1 rfl)
        exact ⟨f1, hW.1, hW.2.1, by rw [upd_ne (by decide)]; exact hW.2.2⟩
      · have h3 := hW.2.2
        rw [hL] at h3
        have f1 : (Instr.storeAt 26 (.pointer (some ⟨w.heap.size + 1, 0, none⟩)) (.agg #[I tk, I id, I ge, S h, I us, .bool false, I 0, I 0, S []])).run Tryz.prog W = .ok () (W.setRow (w.heap.size + 1) #[I tk, I id, I ge, S h, I us, .bool false, I 0, I 0, S []]) := st_all (T := 26) (n := 9) (fun _ => by kernel_rfl) (cs := #[I 0, I 0, I 0, S [], I 0, .bool false, I 0, I 0, S []]) h3 rfl #[I tk, I id, I ge, S h, I us, .bool false, I 0, I 0, S []] rfl (by simp [Value.oneCell'])
        exact ⟨rfl, _, f1, bel_set hW.1 _ _ (by omega) hW.1.size, row_set hW.2.1 (by omega), by rw [upd_eq]; exact setRow_row h3⟩
    intro c L W hall hW
    simp only [frmL, cur42T, cur42V, Act.put, List.setIfInBounds_toArray, List.set_cons_succ, List.set_cons_zero]
    have h11 := hall 11 (by decide)
    have hrs := hW.2.2
    rw [h11] at hrs
    have HBE := hide hW.1
    have hRS := hide hrs
    clear hW h11 hrs hall HH HB HR0 HR1
    go_wp2
    refine out2c (T := 26) (n := 9) (p := 4) (q := 5) (cs := #[I tk, I id, I ge, S h, I us, .bool false, I 0, I 0, S []]) (fun _ => by kernel_rfl) (fun _ => by kernel_rfl) (Z := w.heap.size + 1) (by rfl) (by rfl) (by rfl) (by rfl) (unhide hRS) (by rfl) ?_
    rw [unhide hR]
    exact ⟨rfl, unhide HBE⟩
end Go.Proofs.YtmjaobddgaglhaaGreatDoor
/- Begin. -/
namespace Go.Proofs.YtmjaobddgaglhaaGreatDoor
open Go.RowKit
set_option maxHeartbeats 4000000
set_option maxRecDepth 8000
theorem new_row {w3 W4 : World} {vs zs : Array Value} {t : TypeId} (h : (w3.alloc (.cells zs t)).setRow w3.heap.size vs = W4) : Below w3.heap.size w3 W4 ∧ W4.heap[w3.heap.size]? = some (.cells vs t (0, 0)) := by
  subst h
  exact ⟨bel_set ((Below.refl _ _).alloc (Nat.le_refl _) _) _ _ (Nat.le_refl _) (by simp), setRow_row (heap_alloc_new _ _)⟩
theorem shn_right {l : List Bs} (h : right l = true) : Shn l := by
  have h1 := (right_iff.1 h).1
  have h2 : l.length ≤ 8 := by have h3 := (right_iff.1 h).2.2; simp [many] at h3; omega
  refine ⟨by omega, fun j => ?_⟩
  by_cases hj : j < l.length
  · have := h1 (l.getD j []) (by simp [hj])
    simp [nm] at this
    simp only [List.getD_eq_getElem?_getD]
    omega
  · simp [hj]
/-- Does a family begin? -/
def begOK (id fi : Int) (na : Bs) (pu : Bool) (ch ol : Bs) (un : Int) (sd : List Bs) (idl ab gr li : Int) (su : Bs) (sc : List Bs) (s : Bs) (tm : Int) : Bool := curOK fi s && (cliOK na pu ch ol un sd idl ab gr li && famOK id na su sc tm tm idl ab gr 1 fi 1 0 0)
def OutB (w : World) (ok : Bool) (sc : List Bs) (F : Value → Array Value) (T : Array Value) (e : Ending) (w' : World) : Prop :=
  if ok then ∃ a cap, e = .returned (.tuple #[.agg (F (.slice a sc.length cap)), .agg T, I 0]) ∧ OwnS w.heap.size w' (.slice a sc.length cap) sc ∧ Below w.heap.size w w' else e = .returned (.tuple #[.agg #[I 0, S [], S [], .slice none 0 0, I 0, I 0, I 0, I 0, I 0, I 0, I 0, I 0, I 0, I 0], .agg #[I 0, I 0, I 0, S [], I 0, .bool false, I 0, I 0, S []], I 1]) ∧ Below w.heap.size w w'
def beg1T : List (Op × Option Tmp × Option (Nat × Bool)) := [
  (.move (.tmp 0), some 20, none),
  (.fieldAddr 48 (.tmp 9) 0, some 21, none),
  (.load 9 (.tmp 21), some 22, none),
  (.move (.tmp 3), some 23, none),
  (.move (.tmp 4), some 24, none),
  (.move (.tmp 6), some 25, none),
  (.call { callee := .value (.func 39), args := #[(.tmp 25)], argTypes := #[3] }, some 26, none),
  (.move (.tmp 6), some 27, none),
  (.call { callee := .value (.func 39), args := #[(.tmp 27)], argTypes := #[3] }, some 28, none),
  (.fieldAddr 48 (.tmp 9) 7, some 29, none),
  (.load 3 (.tmp 29), some 30, none),
  (.fieldAddr 48 (.tmp 9) 8, some 31, none),
  (.load 3 (.tmp 31), some 32, none),
  (.fieldAddr 48 (.tmp 9) 9, some 33, none),
  (.load 3 (.tmp 33), some 34, none),
  (.move (.tmp 1), some 35, none),
  (.build 24 #[(0, (.tmp 20)), (1, (.tmp 22)), (2, (.tmp 23)), (3, (.tmp 24)), (4, (.tmp 26)), (5, (.tmp 28)), (6, (.tmp 30)), (7, (.tmp 32)), (8, (.tmp 34)), (9, (.const (I 1))), (10, (.tmp 35)), (11, (.const (I 1)))], some 36, none),
  (.alloc 24, some 17, none),
  (.store 24 (.tmp 17) (.tmp 36), none, none)]
def beg1V (X : Nat) (id fi : Int) (na su : Bs) (v : Value) (now tm idl ab gr : Int) (c : Nat) : Nat → Value
  | 0 => I id
  | 1 => .pointer (some ⟨X, 0, none⟩)
  | 2 => S na
  | 3 => S su
  | 4 => v
  | 5 => I now
  | 6 => I tm
  | 7 => I now
  | 8 => I tm
  | 9 => .pointer (some ⟨X, 7, none⟩)
  | 10 => I idl
  | 11 => .pointer (some ⟨X, 8, none⟩)
  | 12 => I ab
  | 13 => .pointer (some ⟨X, 9, none⟩)
  | 14 => I gr
  | 15 => I fi
  | 16 => .agg #[I id, S na, S su, v, I tm, I tm, I idl, I ab, I gr, I 1, I fi, I 1, I 0, I 0]
  | 17 => ptr c
  | 18 => undef
  | _ => undef
theorem beg1V_ne {X : Nat} {id fi : Int} {na su : Bs} {v : Value} {now tm idl ab gr : Int} {c c' : Nat} {j : Nat} (h : j ≠ 17) : beg1V X id fi na su v now tm idl ab gr c j = beg1V X id fi na su v now tm idl ab gr c' j := by
  match j, h with
  | 0, _ => rfl
  | 1, _ => rfl
  | 2, _ => rfl
  | 3, _ => rfl
  | 4, _ => rfl
  | 5, _ => rfl
  | 6, _ => rfl
  | 7, _ => rfl
  | 8, _ => rfl
  | 9, _ => rfl
  | 10, _ => rfl
  | 11, _ => rfl
  | 12, _ => rfl
  | 13, _ => rfl
  | 14, _ => rfl
  | 15, _ => rfl
  | 16, _ => rfl
  | 17, h => exact absurd rfl h
  | 18, _ => rfl
  | (q + 19), _ => rfl
structure WB1 (w : World) (X : Nat) (R0 R1 R2 NFv : Array Value) (c : Nat) (L : Nat → Bool) (W : World) : Prop where
  be : Below X w W
  r0 : W.heap[X]? = some (.cells R0 48 (0, 0))
  r1 : W.heap[X + 1]? = some (.cells R1 24 (0, 0))
  r2 : W.heap[X + 2]? = some (.cells R2 26 (0, 0))
  rc : L 17 = true → X + 2 < c ∧ W.heap[c]? = some (.cells (if L 18 then NFv else R1) 24 (0, 0))
  ord : L 18 = true → L 17 = true
theorem WB1.pure {w : World} {X : Nat} {R0 R1 R2 NFv : Array Value} {c : Nat} {L : Nat → Bool} {W : World} (h : WB1 w X R0 R1 R2 NFv c L W) (i : Nat) (h17 : i ≠ 17) (h18 : i ≠ 18) : WB1 w X R0 R1 R2 NFv c (upd L i) W :=
  ⟨h.be, h.r0, h.r1, h.r2, fun e => by rw [upd_ne (fun q => h17 q.symm)] at e; rw [upd_ne (fun q => h18 q.symm)]; exact h.rc e, fun e => by rw [upd_ne (fun q => h18 q.symm)] at e; exact upd_of (h.ord e)⟩
theorem WB1.call {w : World} {X : Nat} {R0 R1 R2 NFv : Array Value} {c : Nat} {L : Nat → Bool} {W W2 : World} (h : WB1 w X R0 R1 R2 NFv c L W) (hb : Below W.heap.size W W2) : WB1 w X R0 R1 R2 NFv c L W2 :=
  ⟨h.be.trans (hb.mono (by have := lt_of_row h.r0; omega)), (hb.block _ (lt_of_row h.r0)).trans h.r0, (hb.block _ (lt_of_row h.r1)).trans h.r1, (hb.block _ (lt_of_row h.r2)).trans h.r2, fun e => ⟨(h.rc e).1, (hb.block _ (lt_of_row (h.rc e).2)).trans (h.rc e).2⟩, h.ord⟩
def beg5T : List (Op × Option Tmp × Option (Nat × Bool)) := [
  (.load 24 (.tmp 17), some 57, none),
  (.call { callee := .value (.func 43), args := #[(.tmp 57)], argTypes := #[24] }, some 58, none),
  (.load 26 (.tmp 18), some 59, none),
  (.store 24 (.tmp 14) (.tmp 58), none, none),
  (.store 26 (.tmp 15) (.tmp 59), none, none),
  (.assign (.const (I 0)), some 16, none)]
def beg5V (F0 : Array Value) (F : Value → Array Value) (T : Array Value) (c : Value) : Nat → Value
  | 0 => .agg F0
  | 1 => .agg (F c)
  | 2 => .agg T
  | 3 => undef
  | 4 => undef
  | 5 => I 0
  | _ => undef
theorem beg5V_ne {F0 : Array Value} {F : Value → Array Value} {T : Array Value} {c c' : Value} {j : Nat} (h : j ≠ 1) : beg5V F0 F T c j = beg5V F0 F T c' j := by
  match j, h with
  | 0, _ => rfl
  | 1, h => exact absurd rfl h
  | 2, _ => rfl
  | 3, _ => rfl
  | 4, _ => rfl
  | 5, _ => rfl
  | (q + 6), _ => rfl
structure WB5 (w : World) (X G D M : Nat) (F0 : Array Value) (F : Value → Array Value) (T Zf Zt : Array Value) (u : List Bs) (c : Value) (L : Nat → Bool) (W : World) : Prop where
  be : Below X w W
  rg : W.heap[G]? = some (.cells F0 24 (0, 0))
  rd : W.heap[D]? = some (.cells T 26 (0, 0))
  rf : W.heap[X + 1]? = some (.cells (if L 3 then F c else Zf) 24 (0, 0))
  rt : W.heap[X + 2]? = some (.cells (if L 4 then T else Zt) 26 (0, 0))
  own : L 1 = true → OwnS M W c u
  sz : M ≤ W.heap.size
  ord : L 3 = true → L 1 = true
theorem WB5.pure {w : World} {X G D M : Nat} {F0 : Array Value} {F : Value → Array Value} {T Zf Zt : Array Value} {u : List Bs} {c : Value} {L : Nat → Bool} {W : World} (h : WB5 w X G D M F0 F T Zf Zt u c L W) (i : Nat) (h1 : i ≠ 1) (h3 : i ≠ 3) (h4 : i ≠ 4) : WB5 w X G D M F0 F T Zf Zt u c (upd L i) W :=
  ⟨h.be, h.rg, h.rd, by rw [upd_ne (fun q => h3 q.symm)]; exact h.rf, by rw [upd_ne (fun q => h4 q.symm)]; exact h.rt, fun e => h.own (by rw [upd_ne (fun q => h1 q.symm)] at e; exact e), h.sz, fun e => by rw [upd_ne (fun q => h3 q.symm)] at e; exact upd_of (h.ord e)⟩
theorem WB5.call {w : World} {X G D M : Nat} {F0 : Array Value} {F : Value → Array Value} {T Zf Zt : Array Value} {u : List Bs} {c : Value} {L : Nat → Bool} {W W2 : World} (h : WB5 w X G D M F0 F T Zf Zt u c L W) (hb : Below W.heap.size W W2) : WB5 w X G D M F0 F T Zf Zt u c L W2 :=
  ⟨h.be.trans (hb.mono (by have := lt_of_row h.rf; omega)), (hb.block _ (lt_of_row h.rg)).trans h.rg, (hb.block _ (lt_of_row h.rd)).trans h.rd, (hb.block _ (lt_of_row h.rf)).trans h.rf, (hb.block _ (lt_of_row h.rt)).trans h.rt, fun e => (h.own e).below hb (Nat.le_refl _), Nat.le_trans h.sz hb.size, h.ord⟩
theorem WB5.own1 {w : World} {X G D M B : Nat} {F0 : Array Value} {F : Value → Array Value} {T Zf Zt : Array Value} {u : List Bs} {c c' : Value} {L : Nat → Bool} {W : World} (h : WB5 w X G D M F0 F T Zf Zt u c L W) (h3 : L 3 = false) (ho : OwnS B W c' u) (hB : M ≤ B) : WB5 w X G D M F0 F T Zf Zt u c' (upd L 1) W :=
  ⟨h.be, h.rg, h.rd, by have := h.rf; rw [h3] at this; rw [upd_ne (by decide), h3]; exact this, by rw [upd_ne (by decide)]; exact h.rt, fun _ => ho.below (Below.refl _ _) hB, h.sz, fun _ => upd_eq⟩
theorem begin_any (id fi : Int) (na : Bs) (pu of9 : Bool) (ch ol : Bs) (un : Int) (vb : Option Addr) (vd : Nat) (sd : List Bs) (idl ab gr li : Int) (su : Bs) (va : Option Addr) (vc : Nat) (sc : List Bs) (s : Bs) (now : Int) (w : World) (h_na : na.length ≤ 9223372036854775807) (hsd : Sts w vb sd.length sd) (hdl : sd.length ≤ 140737488355000) (hld : Lns sd) (h_su : su.length ≤ 9223372036854775807) (hsc : Sts w va sc.length sc) (hsl : sc.length ≤ 140737488355000) (hln : Lns sc) : Calls Tryz.prog 25 #[I id, I fi, .agg #[S na, .bool pu, .bool of9, S ch, S ol, I un, .slice vb sd.length vd, I idl, I ab, I gr, I li], S su, .slice va sc.length vc, S s, I now] w (OutB w (begOK id fi na pu ch ol un sd idl ab gr li su sc s (nr now)) sc (fun v => #[I id, S na, S su, v, I (nr now), I (nr now), I idl, I ab, I gr, I 1, I fi, I 1, I 0, I 0]) #[I fi, I id, I 1, S (hsh fi s), I (nr now), .bool false, I 0, I 0, S []]) := by
  have hb : Below w.heap.size w (((w.alloc (.cells #[S na, .bool pu, .bool of9, S ch, S ol, I un, .slice vb sd.length vd, I idl, I ab, I gr, I li] 48)).alloc (.cells #[I 0, S [], S [], .slice none 0 0, I 0, I 0, I 0, I 0, I 0, I 0, I 0, I 0, I 0, I 0] 24)).alloc (.cells #[I 0, I 0, I 0, S [], I 0, .bool false, I 0, I 0, S []] 26)) := ((((Below.refl _ w).alloc (by simp <;> omega) _).alloc (by simp <;> omega) _).alloc (by simp <;> omega) _)
  have rc : (((w.alloc (.cells #[S na, .bool pu, .bool of9, S ch, S ol, I un, .slice vb sd.length vd, I idl, I ab, I gr, I li] 48)).alloc (.cells #[I 0, S [], S [], .slice none 0 0, I 0, I 0, I 0, I 0, I 0, I 0, I 0, I 0, I 0, I 0] 24)).alloc (.cells #[I 0, I 0, I 0, S [], I 0, .bool false, I 0, I 0, S []] 26)).heap[w.heap.size]? = some (.cells #[S na, .bool pu, .bool of9, S ch, S ol, I un, .slice vb sd.length vd, I idl, I ab, I gr, I li] 48 (0, 0)) := al_old _ _ _ (by simp <;> omega) (al_old _ _ _ (by simp <;> omega) (al_new w (.cells #[S na, .bool pu, .bool of9, S ch, S ol, I un, .slice vb sd.length vd, I idl, I ab, I gr, I li] 48) (w.heap.size) (by simp)))
  have rf : (((w.alloc (.cells #[S na, .bool pu, .bool of9, S ch, S ol, I un, .slice vb sd.length vd, I idl, I ab, I gr, I li] 48)).alloc (.cells #[I 0, S [], S [], .slice none 0 0, I 0, I 0, I 0, I 0, I 0, I 0, I 0, I 0, I 0, I 0] 24)).alloc (.cells #[I 0, I 0, I 0, S [], I 0, .bool false, I 0, I 0, S []] 26)).heap[w.heap.size + 1]? = some (.cells #[I 0, S [], S [], .slice none 0 0, I 0, I 0, I 0, I 0, I 0, I 0, I 0, I 0, I 0, I 0] 24 (0, 0)) := al_old _ _ _ (by simp <;> omega) (al_new (w.alloc (.cells #[S na, .bool pu, .bool of9, S ch, S ol, I un, .slice vb sd.length vd, I idl, I ab, I gr, I li] 48)) (.cells #[I 0, S [], S [], .slice none 0 0, I 0, I 0, I 0, I 0, I 0, I 0, I 0, I 0, I 0, I 0] 24) (w.heap.size + 1) (by simp))
  have rt : (((w.alloc (.cells #[S na, .bool pu, .bool of9, S ch, S ol, I un, .slice vb sd.length vd, I idl, I ab, I gr, I li] 48)).alloc (.cells #[I 0, S [], S [], .slice none 0 0, I 0, I 0, I 0, I 0, I 0, I 0, I 0, I 0, I 0, I 0] 24)).alloc (.cells #[I 0, I 0, I 0, S [], I 0, .bool false, I 0, I 0, S []] 26)).heap[w.heap.size + 2]? = some (.cells #[I 0, I 0, I 0, S [], I 0, .bool false, I 0, I 0, S []] 26 (0, 0)) := al_new ((w.alloc (.cells #[S na, .bool pu, .bool of9, S ch, S ol, I un, .slice vb sd.length vd, I idl, I ab, I gr, I li] 48)).alloc (.cells #[I 0, S [], S [], .slice none 0 0, I 0, I 0, I 0, I 0, I 0, I 0, I 0, I 0, I 0, I 0] 24)) (.cells #[I 0, I 0, I 0, S [], I 0, .bool false, I 0, I 0, S []] 26) (w.heap.size + 2) (by simp)
  generalize hW1 : (((w.alloc (.cells #[S na, .bool pu, .bool of9, S ch, S ol, I un, .slice vb sd.length vd, I idl, I ab, I gr, I li] 48)).alloc (.cells #[I 0, S [], S [], .slice none 0 0, I 0, I 0, I 0, I 0, I 0, I 0, I 0, I 0, I 0, I 0] 24)).alloc (.cells #[I 0, I 0, I 0, S [], I 0, .bool false, I 0, I 0, S []] 26)) = W1 at *
  have HB := hide hb
  have HRc := hide rc
  have HRf := hide rf
  have HRt := hide rt
  clear hb rc rf rt
  have XN := hide (fun W => fnear_any now W)
  have hOK : Hid (begOK id fi na pu ch ol un sd idl ab gr li su sc s (nr now) = (curOK fi s && (cliOK na pu ch ol un sd idl ab gr li && famOK id na su sc (nr now) (nr now) idl ab gr 1 fi 1 0 0))) := hide rfl
  have XC := hide (fun W (h : Below w.heap.size w W) => cliMay_any na pu of9 ch ol un vb vd sd idl ab gr li W h_na (hsd.below h) hdl hld)
  have XF := hide (fun W (h : Below w.heap.size w W) => famMay_any id na su va vc sc (nr now) (nr now) idl ab gr 1 fi 1 0 0 W h_na h_su (hsc.below h) hsl hln)
  have XU := hide (fun W => current_any id na su va vc sc (nr now) (nr now) idl ab gr 1 fi 1 0 0 s W)
  have HCR : Hid (crt id 1 fi (nr now) s = if curOK fi s then (#[I fi, I id, I 1, S (hsh fi s), I (nr now), .bool false, I 0, I 0, S []], 0) else (#[I 0, I 0, I 0, S [], I 0, .bool false, I 0, I 0, S []], 1)) := hide rfl
  have XO := hide (fun W (h : Below w.heap.size w W) (h1 : na.length ≤ 1000) (h2 : su.length ≤ 1000) (h3 : Shn sc) => ownFamily_any id na su va vc sc (nr now) (nr now) idl ab gr 1 fi 1 0 0 W h1 h2 (hsc.below h) h3)
  have HSM : Hid (famOK id na su sc (nr now) (nr now) idl ab gr 1 fi 1 0 0 = true → na.length ≤ 1000 ∧ su.length ≤ 1000 ∧ Shn sc) := hide (fun h => by
    simp only [famOK, Bool.and_eq_true] at h
    exact ⟨by have := right_one h.2.2.2.1; omega, by have := right_one h.2.2.2.2.1; omega, shn_right h.2.2.2.2.2.1⟩)
  generalize begOK id fi na pu ch ol un sd idl ab gr li su sc s (nr now) = OK at *
  generalize crt id 1 fi (nr now) s = R at *
  generalize hsh fi s = hh at *
  generalize nr now = tm at *
  generalize cliOK na pu ch ol un sd idl ab gr li = b1 at *
  generalize famOK id na su sc tm tm idl ab gr 1 fi 1 0 0 = b2 at *
  generalize curOK fi s = b0 at *
  clear hsd hld hsc hln h_na h_su hdl hsl
  generalize hv0 : (Value.slice va sc.length vc) = v0 at *
  go_enter Tryz.func25, Tryz.ntmps25
  go_upto_region 1 with fail
  refine region_tab beg1T [(0, I id), (1, I fi), (3, S su), (4, v0), (6, I now), (9, ptr w.heap.size)] 60 [0, 1, 3, 4, 5, 7, 9, 11, 13, 15, 16] (beg1V w.heap.size id fi na su v0 now tm idl ab gr) rfl (by rfl) (by rfl) rfl (fun c w => by kernel_rfl) _ W1 (by simp) rfl (WB1 w w.heap.size #[S na, .bool pu, .bool of9, S ch, S ol, I un, .slice vb sd.length vd, I idl, I ab, I gr, I li] #[I 0, S [], S [], .slice none 0 0, I 0, I 0, I 0, I 0, I 0, I 0, I 0, I 0, I 0, I 0] #[I 0, I 0, I 0, S [], I 0, .bool false, I 0, I 0, S []] #[I id, S na, S su, v0, I tm, I tm, I idl, I ab, I gr, I 1, I fi, I 1, I 0, I 0]) ⟨0, ⟨(unhide HB).drew, unhide HRc, unhide HRf, unhide HRt, (fun e => by cases e), (fun e => by cases e)⟩⟩ (fun i hi c L W hW => hW.pure i (by intro e; subst e; simp at hi) (by intro e; subst e; simp at hi)) ?sp ?_
  case sp =>
    intro i hi hp c L W hW hL hd
    rcases (by simp [beg1T] at hi hp; omega : i = 2 ∨ i = 6 ∨ i = 8 ∨ i = 10 ∨ i = 12 ∨ i = 14 ∨ i = 17 ∨ i = 18) with rfl | rfl | rfl | rfl | rfl | rfl | rfl | rfl
    · have f1 : (Instr.loadAt 9 (.pointer (some ⟨w.heap.size, 0, none⟩))).run Tryz.prog W = .ok (S na) W := s_ld (T := 9) (fun _ => by kernel_rfl) (cellr hW.r0 rfl)
      exact ⟨f1, hW.pure 2 (by decide) (by decide)⟩
    · exact ⟨⟨_, _, Tryz.func39, by kernel_rfl, rfl⟩, (unhide XN W).mono fun e w' q => ⟨c, fun _ _ => rfl, q.1, (hW.call q.2).pure 6 (by decide) (by decide)⟩⟩
    · exact ⟨⟨_, _, Tryz.func39, by kernel_rfl, rfl⟩, (unhide XN W).mono fun e w' q => ⟨c, fun _ _ => rfl, q.1, (hW.call q.2).pure 8 (by decide) (by decide)⟩⟩
    · have f1 : (Instr.loadAt 3 (.pointer (some ⟨w.heap.size, 7, none⟩))).run Tryz.prog W = .ok (I idl) W := s_ld (T := 3) (fun _ => by kernel_rfl) (cellr hW.r0 rfl)
      exact ⟨f1, hW.pure 10 (by decide) (by decide)⟩
    · have f1 : (Instr.loadAt 3 (.pointer (some ⟨w.heap.size, 8, none⟩))).run Tryz.prog W = .ok (I ab) W := s_ld (T := 3) (fun _ => by kernel_rfl) (cellr hW.r0 rfl)
      exact ⟨f1, hW.pure 12 (by decide) (by decide)⟩
    · have f1 : (Instr.loadAt 3 (.pointer (some ⟨w.heap.size, 9, none⟩))).run Tryz.prog W = .ok (I gr) W := s_ld (T := 3) (fun _ => by kernel_rfl) (cellr hW.r0 rfl)
      exact ⟨f1, hW.pure 14 (by decide) (by decide)⟩
    · have h18 : L 18 = false := by cases q : L 18 with | false => rfl | true => rw [hW.ord q] at hL; cases hL
      have f1 : (Instr.alloc 24 true (.tuple #[])).run Tryz.prog W = .ok (ptr W.heap.size) (W.alloc (.cells #[I 0, S [], S [], .slice none 0 0, I 0, I 0, I 0, I 0, I 0, I 0, I 0, I 0, I 0, I 0] 24)) := by kernel_rfl
      have h2 := hW.call ((Below.refl _ W).alloc (Nat.le_refl _) (.cells #[I 0, S [], S [], .slice none 0 0, I 0, I 0, I 0, I 0, I 0, I 0, I 0, I 0, I 0, I 0] 24))
      exact ⟨W.heap.size, _, fun j hj => beg1V_ne (by intro e; subst e; rw [hL] at hj; cases hj), f1, ⟨h2.be, h2.r0, h2.r1, h2.r2, fun _ => ⟨lt_of_row hW.r2, by rw [upd_ne (by decide), h18]; exact heap_alloc_new _ _⟩, fun e => by rw [upd_ne (by decide), h18] at e; cases e⟩⟩
    · have h17 : L 17 = true := hd 17 (by rfl)
      obtain ⟨hlt, hrc⟩ := hW.rc h17
      rw [hL] at hrc
      have f1 : (Instr.storeAt 24 (ptr c) (.agg #[I id, S na, S su, v0, I tm, I tm, I idl, I ab, I gr, I 1, I fi, I 1, I 0, I 0])).run Tryz.prog W = .ok () (W.setRow c #[I id, S na, S su, v0, I tm, I tm, I idl, I ab, I gr, I 1, I fi, I 1, I 0, I 0]) := st_all (T := 24) (n := 14) (fun _ => by kernel_rfl) (cs := #[I 0, S [], S [], .slice none 0 0, I 0, I 0, I 0, I 0, I 0, I 0, I 0, I 0, I 0, I 0]) hrc rfl #[I id, S na, S su, v0, I tm, I tm, I idl, I ab, I gr, I 1, I fi, I 1, I 0, I 0] rfl (by rw [← hv0]; simp [Value.oneCell'])
      exact ⟨rfl, _, f1, ⟨bel_set hW.be _ _ (by omega) (by have := lt_of_row hW.r0; omega), row_set hW.r0 (by omega), row_set hW.r1 (by omega), row_set hW.r2 (by omega), fun _ => ⟨hlt, by rw [upd_eq]; exact setRow_row hrc⟩, fun _ => upd_of h17⟩⟩
  intro c L W hall hW
  simp only [frmL, beg1T, beg1V, Act.put, List.setIfInBounds_toArray, List.set_cons_succ, List.set_cons_zero]
  obtain ⟨hlt, hrc⟩ := hW.rc (hall 17 (by decide))
  rw [hall 18 (by decide)] at hrc
  have rc := hW.r0
  have rf := hW.r1
  have rt := hW.r2
  have rg : W.heap[c]? = some (.cells #[I id, S na, S su, v0, I tm, I tm, I idl, I ab, I gr, I 1, I fi, I 1, I 0, I 0] 24 (0, 0)) := hrc
  have hb := hW.be
  have HLT := hide hlt
  clear hall hW hrc hlt XN HB HRc HRf HRt hW1
  have cg_0 : W.cell? ⟨c, 0, none⟩ = some (I id) := cellr rg rfl
  have cg_1 : W.cell? ⟨c, 1, none⟩ = some (S na) := cellr rg rfl
  have cg_2 : W.cell? ⟨c, 2, none⟩ = some (S su) := cellr rg rfl
  have cg_3 : W.cell? ⟨c, 3, none⟩ = some (v0) := cellr rg rfl
  have cg_4 : W.cell? ⟨c, 4, none⟩ = some (I tm) := cellr rg rfl
  have cg_5 : W.cell? ⟨c, 5, none⟩ = some (I tm) := cellr rg rfl
  have cg_6 : W.cell? ⟨c, 6, none⟩ = some (I idl) := cellr rg rfl
  have cg_7 : W.cell? ⟨c, 7, none⟩ = some (I ab) := cellr rg rfl
  have cg_8 : W.cell? ⟨c, 8, none⟩ = some (I gr) := cellr rg rfl
  have cg_9 : W.cell? ⟨c, 9, none⟩ = some (I 1) := cellr rg rfl
  have cg_10 : W.cell? ⟨c, 10, none⟩ = some (I fi) := cellr rg rfl
  have cg_11 : W.cell? ⟨c, 11, none⟩ = some (I 1) := cellr rg rfl
  have cg_12 : W.cell? ⟨c, 12, none⟩ = some (I 0) := cellr rg rfl
  have cg_13 : W.cell? ⟨c, 13, none⟩ = some (I 0) := cellr rg rfl
  have HB := hide hb
  have HRc := hide rc
  have HRf := hide rf
  have HRt := hide rt
  have HRg := hide rg
  clear hb rc rf rt rg
  cases b0
  · have hR : R = (#[I 0, I 0, I 0, S [], I 0, .bool false, I 0, I 0, S []], 1) := unhide HCR
    subst hR
    clear HCR
    go_wp2_with fail
    refine (unhide XU W).mono ?_
    rintro e w3 ⟨rfl, h3⟩
    have hbB := (unhide HB).trans (h3.mono (unhide HB).size)
    have rc := (h3.block _ (lt_of_row (unhide HRc))).trans (unhide HRc)
    have rf := (h3.block _ (lt_of_row (unhide HRf))).trans (unhide HRf)
    have rt := (h3.block _ (lt_of_row (unhide HRt))).trans (unhide HRt)
    have rg := (h3.block _ (lt_of_row (unhide HRg))).trans (unhide HRg)
    clear h3 HB HRc HRf HRt HRg cg_0 cg_1 cg_2 cg_3 cg_4 cg_5 cg_6 cg_7 cg_8 cg_9 cg_10 cg_11 cg_12 cg_13 
    have HB := hide hbB
    have HRc := hide rc
    have HRf := hide rf
    have HRt := hide rt
    have HRg := hide rg
    clear hbB rc rf rt rg
    clear XU
    have hOK2 : Hid (OK = false) := hide (unhide hOK)
    clear hOK
    have hOK := hOK2
    clear hOK2
    go_upto_region 3 with (refine wp_stA inf26 rfl (.tmp 18) (.tmp 41) rfl w3.heap.size (by rfl) #[I 0, I 0, I 0, S [], I 0, .bool false, I 0, I 0, S []] (by rfl) #[I 0, I 0, I 0, S [], I 0, .bool false, I 0, I 0, S []] rfl rfl (heap_alloc_new _ _) (by simp [Value.oneCell']) ?_; generalize hW4 : (w3.alloc (.cells #[I 0, I 0, I 0, S [], I 0, .bool false, I 0, I 0, S []] 26)).setRow w3.heap.size #[I 0, I 0, I 0, S [], I 0, .bool false, I 0, I 0, S []] = W4)
    obtain ⟨h4, rd⟩ := new_row hW4
    have HSZ := hide (lt_of_row (unhide HRt))
    clear hW4
    have hbB := (unhide HB).trans (h4.mono (unhide HB).size)
    have rc := (h4.block _ (lt_of_row (unhide HRc))).trans (unhide HRc)
    have rf := (h4.block _ (lt_of_row (unhide HRf))).trans (unhide HRf)
    have rt := (h4.block _ (lt_of_row (unhide HRt))).trans (unhide HRt)
    have rg := (h4.block _ (lt_of_row (unhide HRg))).trans (unhide HRg)
    clear h4 HB HRc HRf HRt HRg  
    have HB := hide hbB
    have HRc := hide rc
    have HRf := hide rf
    have HRt := hide rt
    have HRg := hide rg
    have HRd := hide rd
    clear hbB rc rf rt rg rd
    go_wp2_with (first | (refine wp_stA inf24 rfl (.tmp 14) (.tmp 55) rfl (w.heap.size + 1) (by rfl) #[I 0, S [], S [], .slice none 0 0, I 0, I 0, I 0, I 0, I 0, I 0, I 0, I 0, I 0, I 0] (by rfl) #[I 0, S [], S [], .slice none 0 0, I 0, I 0, I 0, I 0, I 0, I 0, I 0, I 0, I 0, I 0] rfl rfl (unhide HRf) (by simp [Value.oneCell']) ?_) | (refine wp_stA inf26 rfl (.tmp 15) (.tmp 56) rfl (w.heap.size + 2) (by rfl) #[I 0, I 0, I 0, S [], I 0, .bool false, I 0, I 0, S []] (by rfl) #[I 0, I 0, I 0, S [], I 0, .bool false, I 0, I 0, S []] rfl rfl (row_set (unhide HRt) (by omega)) (by simp [Value.oneCell']) ?_))
    refine out3c (T := 24) (n := 14) (U := 26) (m := 9) (p := 14) (p' := 15) (q := 16) (cs := #[I 0, S [], S [], .slice none 0 0, I 0, I 0, I 0, I 0, I 0, I 0, I 0, I 0, I 0, I 0]) (cs' := #[I 0, I 0, I 0, S [], I 0, .bool false, I 0, I 0, S []]) (fun _ => by kernel_rfl) (fun _ => by kernel_rfl) (fun _ => by kernel_rfl) (fun _ => by kernel_rfl) (Z := w.heap.size + 1) (Z' := w.heap.size + 2) (by rfl) (by rfl) (by rfl) (by rfl) (by rfl) (row_set (setRow_row (unhide HRf)) (by omega)) (by rfl) (setRow_row (row_set (unhide HRt) (by omega))) (by rfl) ?_
    rw [unhide hOK]
    exact ⟨rfl, bel_set (bel_set (unhide HB) _ _ (by omega) (unhide HB).size) _ _ (by omega) (by simpa using (unhide HB).size)⟩
  · have hR : R = (#[I fi, I id, I 1, S (hh), I tm, .bool false, I 0, I 0, S []], 0) := unhide HCR
    subst hR
    clear HCR
    go_wp2_with fail
    refine (unhide XU W).mono ?_
    rintro e w3 ⟨rfl, h3⟩
    have hbB := (unhide HB).trans (h3.mono (unhide HB).size)
    have rc := (h3.block _ (lt_of_row (unhide HRc))).trans (unhide HRc)
    have rf := (h3.block _ (lt_of_row (unhide HRf))).trans (unhide HRf)
    have rt := (h3.block _ (lt_of_row (unhide HRt))).trans (unhide HRt)
    have rg := (h3.block _ (lt_of_row (unhide HRg))).trans (unhide HRg)
    clear h3 HB HRc HRf HRt HRg cg_0 cg_1 cg_2 cg_3 cg_4 cg_5 cg_6 cg_7 cg_8 cg_9 cg_10 cg_11 cg_12 cg_13 
    have HB := hide hbB
    have HRc := hide rc
    have HRf := hide rf
    have HRt := hide rt
    have HRg := hide rg
    clear hbB rc rf rt rg
    clear XU
    go_upto_region 3 with (refine wp_stA inf26 rfl (.tmp 18) (.tmp 41) rfl w3.heap.size (by rfl) #[I fi, I id, I 1, S (hh), I tm, .bool false, I 0, I 0, S []] (by rfl) #[I 0, I 0, I 0, S [], I 0, .bool false, I 0, I 0, S []] rfl rfl (heap_alloc_new _ _) (by simp [Value.oneCell']) ?_; generalize hW4 : (w3.alloc (.cells #[I 0, I 0, I 0, S [], I 0, .bool false, I 0, I 0, S []] 26)).setRow w3.heap.size #[I fi, I id, I 1, S (hh), I tm, .bool false, I 0, I 0, S []] = W4)
    obtain ⟨h4, rd⟩ := new_row hW4
    have HSZ := hide (lt_of_row (unhide HRt))
    clear hW4
    have hbB := (unhide HB).trans (h4.mono (unhide HB).size)
    have rc := (h4.block _ (lt_of_row (unhide HRc))).trans (unhide HRc)
    have rf := (h4.block _ (lt_of_row (unhide HRf))).trans (unhide HRf)
    have rt := (h4.block _ (lt_of_row (unhide HRt))).trans (unhide HRt)
    have rg := (h4.block _ (lt_of_row (unhide HRg))).trans (unhide HRg)
    clear h4 HB HRc HRf HRt HRg  
    have cc_0 : W4.cell? ⟨w.heap.size, 0, none⟩ = some (S na) := cellr rc rfl
    have cc_1 : W4.cell? ⟨w.heap.size, 1, none⟩ = some (.bool pu) := cellr rc rfl
    have cc_2 : W4.cell? ⟨w.heap.size, 2, none⟩ = some (.bool of9) := cellr rc rfl
    have cc_3 : W4.cell? ⟨w.heap.size, 3, none⟩ = some (S ch) := cellr rc rfl
    have cc_4 : W4.cell? ⟨w.heap.size, 4, none⟩ = some (S ol) := cellr rc rfl
    have cc_5 : W4.cell? ⟨w.heap.size, 5, none⟩ = some (I un) := cellr rc rfl
    have cc_6 : W4.cell? ⟨w.heap.size, 6, none⟩ = some (.slice vb sd.length vd) := cellr rc rfl
    have cc_7 : W4.cell? ⟨w.heap.size, 7, none⟩ = some (I idl) := cellr rc rfl
    have cc_8 : W4.cell? ⟨w.heap.size, 8, none⟩ = some (I ab) := cellr rc rfl
    have cc_9 : W4.cell? ⟨w.heap.size, 9, none⟩ = some (I gr) := cellr rc rfl
    have cc_10 : W4.cell? ⟨w.heap.size, 10, none⟩ = some (I li) := cellr rc rfl
    have cg_0 : W4.cell? ⟨c, 0, none⟩ = some (I id) := cellr rg rfl
    have cg_1 : W4.cell? ⟨c, 1, none⟩ = some (S na) := cellr rg rfl
    have cg_2 : W4.cell? ⟨c, 2, none⟩ = some (S su) := cellr rg rfl
    have cg_3 : W4.cell? ⟨c, 3, none⟩ = some (v0) := cellr rg rfl
    have cg_4 : W4.cell? ⟨c, 4, none⟩ = some (I tm) := cellr rg rfl
    have cg_5 : W4.cell? ⟨c, 5, none⟩ = some (I tm) := cellr rg rfl
    have cg_6 : W4.cell? ⟨c, 6, none⟩ = some (I idl) := cellr rg rfl
    have cg_7 : W4.cell? ⟨c, 7, none⟩ = some (I ab) := cellr rg rfl
    have cg_8 : W4.cell? ⟨c, 8, none⟩ = some (I gr) := cellr rg rfl
    have cg_9 : W4.cell? ⟨c, 9, none⟩ = some (I 1) := cellr rg rfl
    have cg_10 : W4.cell? ⟨c, 10, none⟩ = some (I fi) := cellr rg rfl
    have cg_11 : W4.cell? ⟨c, 11, none⟩ = some (I 1) := cellr rg rfl
    have cg_12 : W4.cell? ⟨c, 12, none⟩ = some (I 0) := cellr rg rfl
    have cg_13 : W4.cell? ⟨c, 13, none⟩ = some (I 0) := cellr rg rfl
    have HB := hide hbB
    have HRc := hide rc
    have HRf := hide rf
    have HRt := hide rt
    have HRg := hide rg
    have HRd := hide rd
    clear hbB rc rf rt rg rd
    go_wp2_with fail
    refine (unhide XC W4 (unhide HB)).mono ?_
    rintro e w5 ⟨rfl, h5⟩
    have hbB := (unhide HB).trans (h5.mono (unhide HB).size)
    have rc := (h5.block _ (lt_of_row (unhide HRc))).trans (unhide HRc)
    have rf := (h5.block _ (lt_of_row (unhide HRf))).trans (unhide HRf)
    have rt := (h5.block _ (lt_of_row (unhide HRt))).trans (unhide HRt)
    have rg := (h5.block _ (lt_of_row (unhide HRg))).trans (unhide HRg)
    have rd := (h5.block _ (lt_of_row (unhide HRd))).trans (unhide HRd)
    clear h5 HB HRc HRf HRt HRg HRd cc_0 cc_1 cc_2 cc_3 cc_4 cc_5 cc_6 cc_7 cc_8 cc_9 cc_10 cg_0 cg_1 cg_2 cg_3 cg_4 cg_5 cg_6 cg_7 cg_8 cg_9 cg_10 cg_11 cg_12 cg_13 
    have cg_0 : w5.cell? ⟨c, 0, none⟩ = some (I id) := cellr rg rfl
    have cg_1 : w5.cell? ⟨c, 1, none⟩ = some (S na) := cellr rg rfl
    have cg_2 : w5.cell? ⟨c, 2, none⟩ = some (S su) := cellr rg rfl
    have cg_3 : w5.cell? ⟨c, 3, none⟩ = some (v0) := cellr rg rfl
    have cg_4 : w5.cell? ⟨c, 4, none⟩ = some (I tm) := cellr rg rfl
    have cg_5 : w5.cell? ⟨c, 5, none⟩ = some (I tm) := cellr rg rfl
    have cg_6 : w5.cell? ⟨c, 6, none⟩ = some (I idl) := cellr rg rfl
    have cg_7 : w5.cell? ⟨c, 7, none⟩ = some (I ab) := cellr rg rfl
    have cg_8 : w5.cell? ⟨c, 8, none⟩ = some (I gr) := cellr rg rfl
    have cg_9 : w5.cell? ⟨c, 9, none⟩ = some (I 1) := cellr rg rfl
    have cg_10 : w5.cell? ⟨c, 10, none⟩ = some (I fi) := cellr rg rfl
    have cg_11 : w5.cell? ⟨c, 11, none⟩ = some (I 1) := cellr rg rfl
    have cg_12 : w5.cell? ⟨c, 12, none⟩ = some (I 0) := cellr rg rfl
    have cg_13 : w5.cell? ⟨c, 13, none⟩ = some (I 0) := cellr rg rfl
    have cd_0 : w5.cell? ⟨w3.heap.size, 0, none⟩ = some (I fi) := cellr rd rfl
    have cd_1 : w5.cell? ⟨w3.heap.size, 1, none⟩ = some (I id) := cellr rd rfl
    have cd_2 : w5.cell? ⟨w3.heap.size, 2, none⟩ = some (I 1) := cellr rd rfl
    have cd_3 : w5.cell? ⟨w3.heap.size, 3, none⟩ = some (S (hh)) := cellr rd rfl
    have cd_4 : w5.cell? ⟨w3.heap.size, 4, none⟩ = some (I tm) := cellr rd rfl
    have cd_5 : w5.cell? ⟨w3.heap.size, 5, none⟩ = some (.bool false) := cellr rd rfl
    have cd_6 : w5.cell? ⟨w3.heap.size, 6, none⟩ = some (I 0) := cellr rd rfl
    have cd_7 : w5.cell? ⟨w3.heap.size, 7, none⟩ = some (I 0) := cellr rd rfl
    have cd_8 : w5.cell? ⟨w3.heap.size, 8, none⟩ = some (S []) := cellr rd rfl
    have HB := hide hbB
    have HRc := hide rc
    have HRf := hide rf
    have HRt := hide rt
    have HRg := hide rg
    have HRd := hide rd
    clear hbB rc rf rt rg rd
    clear XC
    cases b1
    · have hOK2 : Hid (OK = false) := hide (unhide hOK)
      clear hOK
      have hOK := hOK2
      clear hOK2
      go_wp2_with (first | (refine wp_stA inf24 rfl (.tmp 14) (.tmp 55) rfl (w.heap.size + 1) (by rfl) #[I 0, S [], S [], .slice none 0 0, I 0, I 0, I 0, I 0, I 0, I 0, I 0, I 0, I 0, I 0] (by rfl) #[I 0, S [], S [], .slice none 0 0, I 0, I 0, I 0, I 0, I 0, I 0, I 0, I 0, I 0, I 0] rfl rfl (unhide HRf) (by simp [Value.oneCell']) ?_) | (refine wp_stA inf26 rfl (.tmp 15) (.tmp 56) rfl (w.heap.size + 2) (by rfl) #[I 0, I 0, I 0, S [], I 0, .bool false, I 0, I 0, S []] (by rfl) #[I 0, I 0, I 0, S [], I 0, .bool false, I 0, I 0, S []] rfl rfl (row_set (unhide HRt) (by omega)) (by simp [Value.oneCell']) ?_))
      refine out3c (T := 24) (n := 14) (U := 26) (m := 9) (p := 14) (p' := 15) (q := 16) (cs := #[I 0, S [], S [], .slice none 0 0, I 0, I 0, I 0, I 0, I 0, I 0, I 0, I 0, I 0, I 0]) (cs' := #[I 0, I 0, I 0, S [], I 0, .bool false, I 0, I 0, S []]) (fun _ => by kernel_rfl) (fun _ => by kernel_rfl) (fun _ => by kernel_rfl) (fun _ => by kernel_rfl) (Z := w.heap.size + 1) (Z' := w.heap.size + 2) (by rfl) (by rfl) (by rfl) (by rfl) (by rfl) (row_set (setRow_row (unhide HRf)) (by omega)) (by rfl) (setRow_row (row_set (unhide HRt) (by omega))) (by rfl) ?_
      rw [unhide hOK]
      exact ⟨rfl, bel_set (bel_set (unhide HB) _ _ (by omega) (unhide HB).size) _ _ (by omega) (by simpa using (unhide HB).size)⟩
    · go_wp2_with fail
      refine (unhide XF w5 (unhide HB)).mono ?_
      rintro e w6 ⟨rfl, h6⟩
      have hbB := (unhide HB).trans (h6.mono (unhide HB).size)
      have rc := (h6.block _ (lt_of_row (unhide HRc))).trans (unhide HRc)
      have rf := (h6.block _ (lt_of_row (unhide HRf))).trans (unhide HRf)
      have rt := (h6.block _ (lt_of_row (unhide HRt))).trans (unhide HRt)
      have rg := (h6.block _ (lt_of_row (unhide HRg))).trans (unhide HRg)
      have rd := (h6.block _ (lt_of_row (unhide HRd))).trans (unhide HRd)
      clear h6 HB HRc HRf HRt HRg HRd cg_0 cg_1 cg_2 cg_3 cg_4 cg_5 cg_6 cg_7 cg_8 cg_9 cg_10 cg_11 cg_12 cg_13 cd_0 cd_1 cd_2 cd_3 cd_4 cd_5 cd_6 cd_7 cd_8 
      have HB := hide hbB
      have HRc := hide rc
      have HRf := hide rf
      have HRt := hide rt
      have HRg := hide rg
      have HRd := hide rd
      clear hbB rc rf rt rg rd
      clear XF
      cases b2
      · have hOK2 : Hid (OK = false) := hide (unhide hOK)
        clear hOK
        have hOK := hOK2
        clear hOK2
        go_wp2_with (first | (refine wp_stA inf24 rfl (.tmp 14) (.tmp 55) rfl (w.heap.size + 1) (by rfl) #[I 0, S [], S [], .slice none 0 0, I 0, I 0, I 0, I 0, I 0, I 0, I 0, I 0, I 0, I 0] (by rfl) #[I 0, S [], S [], .slice none 0 0, I 0, I 0, I 0, I 0, I 0, I 0, I 0, I 0, I 0, I 0] rfl rfl (unhide HRf) (by simp [Value.oneCell']) ?_) | (refine wp_stA inf26 rfl (.tmp 15) (.tmp 56) rfl (w.heap.size + 2) (by rfl) #[I 0, I 0, I 0, S [], I 0, .bool false, I 0, I 0, S []] (by rfl) #[I 0, I 0, I 0, S [], I 0, .bool false, I 0, I 0, S []] rfl rfl (row_set (unhide HRt) (by omega)) (by simp [Value.oneCell']) ?_))
        refine out3c (T := 24) (n := 14) (U := 26) (m := 9) (p := 14) (p' := 15) (q := 16) (cs := #[I 0, S [], S [], .slice none 0 0, I 0, I 0, I 0, I 0, I 0, I 0, I 0, I 0, I 0, I 0]) (cs' := #[I 0, I 0, I 0, S [], I 0, .bool false, I 0, I 0, S []]) (fun _ => by kernel_rfl) (fun _ => by kernel_rfl) (fun _ => by kernel_rfl) (fun _ => by kernel_rfl) (Z := w.heap.size + 1) (Z' := w.heap.size + 2) (by rfl) (by rfl) (by rfl) (by rfl) (by rfl) (row_set (setRow_row (unhide HRf)) (by omega)) (by rfl) (setRow_row (row_set (unhide HRt) (by omega))) (by rfl) ?_
        rw [unhide hOK]
        exact ⟨rfl, bel_set (bel_set (unhide HB) _ _ (by omega) (unhide HB).size) _ _ (by omega) (by simpa using (unhide HB).size)⟩
      · have hOK2 : Hid (OK = true) := hide (unhide hOK)
        clear hOK
        obtain ⟨q1, q2, q3⟩ := unhide HSM rfl
        go_upto_region 5 with fail
        have hM : w.heap.size + 2 < w6.heap.size := lt_of_row (unhide HRt)
        refine region_tab beg5T [(17, ptr c), (18, ptr w3.heap.size), (14, ptr (w.heap.size + 1)), (15, ptr (w.heap.size + 2))] 60 [5] (beg5V #[I id, S na, S su, v0, I tm, I tm, I idl, I ab, I gr, I 1, I fi, I 1, I 0, I 0] (fun c => #[I id, S na, S su, c, I tm, I tm, I idl, I ab, I gr, I 1, I fi, I 1, I 0, I 0]) #[I fi, I id, I 1, S (hh), I tm, .bool false, I 0, I 0, S []]) rfl (by rfl) (by rfl) rfl (fun c w => by kernel_rfl) _ w6 (by simp) rfl (WB5 w w.heap.size c w3.heap.size w6.heap.size #[I id, S na, S su, v0, I tm, I tm, I idl, I ab, I gr, I 1, I fi, I 1, I 0, I 0] (fun c => #[I id, S na, S su, c, I tm, I tm, I idl, I ab, I gr, I 1, I fi, I 1, I 0, I 0]) #[I fi, I id, I 1, S (hh), I tm, .bool false, I 0, I 0, S []] #[I 0, S [], S [], .slice none 0 0, I 0, I 0, I 0, I 0, I 0, I 0, I 0, I 0, I 0, I 0] #[I 0, I 0, I 0, S [], I 0, .bool false, I 0, I 0, S []] sc) ⟨undef, ⟨(unhide HB).drew, unhide HRg, unhide HRd, unhide HRf, unhide HRt, (fun e => by cases e), Nat.le_refl _, (fun e => by cases e)⟩⟩ (fun i hi c L W hW => hW.pure i (by intro e; subst e; simp at hi) (by intro e; subst e; simp at hi) (by intro e; subst e; simp at hi)) ?sp ?_
        case sp =>
          intro i hi hp c1 L W hW hL hd
          rcases (by simp [beg5T] at hi hp; omega : i = 0 ∨ i = 1 ∨ i = 2 ∨ i = 3 ∨ i = 4) with rfl | rfl | rfl | rfl | rfl
          · have f1 : (Instr.loadAt 24 (ptr c)).run Tryz.prog W = .ok (.agg #[I id, S na, S su, v0, I tm, I tm, I idl, I ab, I gr, I 1, I fi, I 1, I 0, I 0]) W := s_ldr (T := 24) (n := 14) (fun _ => by kernel_rfl) (fun _ => by kernel_rfl) hW.rg (#[I id, S na, S su, v0, I tm, I tm, I idl, I ab, I gr, I 1, I fi, I 1, I 0, I 0]).toList rfl rfl
            exact ⟨f1, hW.pure 0 (by decide) (by decide) (by decide)⟩
          · refine ⟨⟨_, _, Tryz.func43, by kernel_rfl, rfl⟩, (unhide XO W hW.be q1 q2 q3).mono fun e w' q => ?_⟩
            obtain ⟨a, cap, e1, e2, e3⟩ := q
            have h2 := hW.call e3
            have h3 : L 3 = false := by cases q : L 3 with | false => rfl | true => rw [hW.ord q] at hL; cases hL
            exact ⟨.slice a sc.length cap, fun j hj => beg5V_ne (by intro e; subst e; rw [hL] at hj; cases hj), e1, h2.own1 h3 e2 hW.sz⟩
          · have f1 : (Instr.loadAt 26 (ptr w3.heap.size)).run Tryz.prog W = .ok (.agg #[I fi, I id, I 1, S (hh), I tm, .bool false, I 0, I 0, S []]) W := s_ldr (T := 26) (n := 9) (fun _ => by kernel_rfl) (fun _ => by kernel_rfl) hW.rd (#[I fi, I id, I 1, S (hh), I tm, .bool false, I 0, I 0, S []]).toList rfl rfl
            exact ⟨f1, hW.pure 2 (by decide) (by decide) (by decide)⟩
          · have h1 : L 1 = true := hd 1 (by rfl)
            have hrf := hW.rf
            rw [hL] at hrf
            have f1 : (Instr.storeAt 24 (ptr (w.heap.size + 1)) (.agg #[I id, S na, S su, c1, I tm, I tm, I idl, I ab, I gr, I 1, I fi, I 1, I 0, I 0])).run Tryz.prog W = .ok () (W.setRow (w.heap.size + 1) #[I id, S na, S su, c1, I tm, I tm, I idl, I ab, I gr, I 1, I fi, I 1, I 0, I 0]) := by
              obtain ⟨a, cap, rfl⟩ := (hW.own h1).form
              exact st_all (T := 24) (n := 14) (fun _ => by kernel_rfl) (cs := #[I 0, S [], S [], .slice none 0 0, I 0, I 0, I 0, I 0, I 0, I 0, I 0, I 0, I 0, I 0]) hrf rfl #[I id, S na, S su, .slice a sc.length cap, I tm, I tm, I idl, I ab, I gr, I 1, I fi, I 1, I 0, I 0] rfl (by simp [Value.oneCell'])
            exact ⟨rfl, _, f1, ⟨bel_set hW.be _ _ (by omega) (by have := hW.sz; omega), row_set hW.rg (by have := unhide HLT; omega), row_set hW.rd (by have := unhide HSZ; omega), by rw [upd_eq]; exact setRow_row hrf, by rw [upd_ne (by decide)]; exact row_set hW.rt (by omega), fun e => own_set (hW.own h1) _ _ (by omega), by simpa using hW.sz, fun _ => upd_of h1⟩⟩
          · have hrt := hW.rt
            rw [hL] at hrt
            have f1 : (Instr.storeAt 26 (ptr (w.heap.size + 2)) (.agg #[I fi, I id, I 1, S (hh), I tm, .bool false, I 0, I 0, S []])).run Tryz.prog W = .ok () (W.setRow (w.heap.size + 2) #[I fi, I id, I 1, S (hh), I tm, .bool false, I 0, I 0, S []]) := st_all (T := 26) (n := 9) (fun _ => by kernel_rfl) (cs := #[I 0, I 0, I 0, S [], I 0, .bool false, I 0, I 0, S []]) hrt rfl #[I fi, I id, I 1, S (hh), I tm, .bool false, I 0, I 0, S []] rfl (by simp [Value.oneCell'])
            exact ⟨rfl, _, f1, ⟨bel_set hW.be _ _ (by omega) (by have := hW.sz; omega), row_set hW.rg (by have := unhide HLT; omega), row_set hW.rd (by have := unhide HSZ; omega), by rw [upd_ne (by decide)]; exact row_set hW.rf (by omega), by rw [upd_eq]; exact setRow_row hrt, fun e => own_set (hW.own (by rw [upd_ne (by decide)] at e; exact e)) _ _ (by omega), by simpa using hW.sz, fun e => by rw [upd_ne (by decide)] at e; exact upd_of (hW.ord e)⟩⟩
        intro c1 L W hall hW
        simp only [frmL, beg5T, beg5V, Act.put, List.setIfInBounds_toArray, List.set_cons_succ, List.set_cons_zero]
        have hown := hW.own (hall 1 (by decide))
        have hrf := hW.rf
        rw [hall 3 (by decide)] at hrf
        have hrt := hW.rt
        rw [hall 4 (by decide)] at hrt
        have HBE := hide hW.be
        obtain ⟨a, cap, rfl⟩ := hown.form
        have HO := hide hown
        have HF := hide hrf
        have HT := hide hrt
        have HMM := hide hM
        clear hW hall hown hrf hrt HB HRc HRf HRt HRg HRd XO HSM HLT HSZ hM
        go_wp2
        refine out3c (T := 24) (n := 14) (U := 26) (m := 9) (p := 14) (p' := 15) (q := 16) (cs := #[I id, S na, S su, .slice a sc.length cap, I tm, I tm, I idl, I ab, I gr, I 1, I fi, I 1, I 0, I 0]) (cs' := #[I fi, I id, I 1, S (hh), I tm, .bool false, I 0, I 0, S []]) (fun _ => by kernel_rfl) (fun _ => by kernel_rfl) (fun _ => by kernel_rfl) (fun _ => by kernel_rfl) (Z := w.heap.size + 1) (Z' := w.heap.size + 2) (by rfl) (by rfl) (by rfl) (by rfl) (by rfl) (unhide HF) (by rfl) (unhide HT) (by rfl) ?_
        rw [unhide hOK2]
        exact ⟨a, cap, rfl, (unhide HO).below (Below.refl _ _) (by have := unhide HMM; omega), unhide HBE⟩
end Go.Proofs.YtmjaobddgaglhaaGreatDoor
