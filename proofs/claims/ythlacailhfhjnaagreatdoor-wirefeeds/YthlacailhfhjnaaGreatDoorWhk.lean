import Derived.Test.YthlacailhfhjnaaGreatDoorWhj
import Derived.Deep.CutRange
namespace Go.Proofs.YthlacailhfhjnaaGreatDoor
open Go.RowKit Go.Lib
theorem row8 {w : World} {P T : Nat} {v0 v1 v2 v3 v4 v5 v6 v7 : Value} (h : w.heap[P]? = some (.cells #[v0, v1, v2, v3, v4, v5, v6, v7] T (0, 0))) :
    w.cell? ⟨P, 0, none⟩ = some v0 ∧ w.cell? ⟨P, 1, none⟩ = some v1 ∧ w.cell? ⟨P, 2, none⟩ = some v2 ∧ w.cell? ⟨P, 3, none⟩ = some v3 ∧ w.cell? ⟨P, 4, none⟩ = some v4 ∧ w.cell? ⟨P, 5, none⟩ = some v5 ∧ w.cell? ⟨P, 6, none⟩ = some v6 ∧ w.cell? ⟨P, 7, none⟩ = some v7 :=
  ⟨cell_of_row w P 0 _ T (0, 0) h, cell_of_row w P 1 _ T (0, 0) h, cell_of_row w P 2 _ T (0, 0) h, cell_of_row w P 3 _ T (0, 0) h, cell_of_row w P 4 _ T (0, 0) h, cell_of_row w P 5 _ T (0, 0) h, cell_of_row w P 6 _ T (0, 0) h, cell_of_row w P 7 _ T (0, 0) h⟩
theorem gcs_one (m p : Bs) (st : Int) (q : Option Addr) (k c : Nat) (b : Bs) (n : Int) (wh : Bool) (e : Int) : (gcs m p st (.slice q k c) b n wh e).all (·.oneCell') = true := by
  simp [gcs, Value.oneCell']
theorem wp_st93 {ops : Array Oper} {rest : List Oper} {o : Oper} {a : Act} {w : World} {Q : Exit → Act → World → Prop} (hgd : o.guard = none) (x y : Operand) (ho : o.op = .store 93 x y)
    (P : Nat) (hx : a.eval x = .pointer (some ⟨P, 0, none⟩)) (m p : Bs) (st : Int) (q : Option Addr) (k c : Nat) (b : Bs) (n : Int) (wh : Bool) (e : Int) (hy : a.eval y = .agg (gcs m p st (.slice q k c) b n wh e))
    (hg : w.heap[P]? = some (.cells (gz 0) 93 (0, 0)))
    (h : wpList Tryz.prog ops Q rest (a.put o.dst undef) (w.setRow P (gcs m p st (.slice q k c) b n wh e))) : wpList Tryz.prog ops Q (o :: rest) a w :=
  wpList_store_row hgd 93 x y ho P _ hx hy 93 (gz 0) hg info93 rfl (gcs_one m p st q k c b n wh e) h
theorem fin50 {Post : Ending → World → Prop} {act : Act} {Wf : World} {P : Nat} {v0 v1 v2 v3 v4 v5 v6 v7 : Value} (h4 : act.tmps.getD 4 undef = .pointer (some ⟨P, 0, none⟩)) (hd : act.defers = []) (hx : Wf.heap[P]? = some (.cells #[v0, v1, v2, v3, v4, v5, v6, v7] 93 (0, 0))) (hpost : Post (.returned (.agg #[v0, v1, v2, v3, v4, v5, v6, v7])) Wf) : bodyPost Tryz.prog Tryz.f50 Post Exit.ret act Wf := by
  obtain ⟨c0, c1, c2, c3, c4, c5, c6, c7⟩ := row8 hx
  have h4' : act.tmps[4]?.getD undef = .pointer (some ⟨P, 0, none⟩) := by rw [← h4, Array.getD_eq_getD_getElem?]
  refine bodyPost_ret (v := .agg #[v0, v1, v2, v3, v4, v5, v6, v7]) (by simp [results, Tryz.results50, go_sem, h4', c0, c1, c2, c3, c4, c5, c6, c7]) hd hpost
theorem done0 {w wr : World} {P4 : Nat} (x4 : wr.heap[P4]? = some (.cells (gz 0) 93 (0, 0))) (hg : w.heap.size ≤ P4) (hb : Below w.heap.size w wr) (cs : Array Value) : (wr.setRow P4 cs).heap[P4]? = some (.cells cs 93 (0, 0)) ∧ Below w.heap.size w (wr.setRow P4 cs) :=
  ⟨setRow_heap wr P4 _ _ 93 _ x4, hb.trans ⟨rfl, rfl, rfl, by simp [World.setRow], fun k hk => setRow_other wr P4 k cs (by omega)⟩⟩
/-- The first line: what it leaves. -/
structure Fir (a : Bool) (l : Bs) (w : World) (P4 P5 : Nat) (W' : World) : Prop where
  x4 : W'.heap[P4]? = some (.cells (gz 0) 93 (0, 0))
  bel : Below w.heap.size w W'
  ok : ∀ f, opf a l = some f → RdS w P4 P5 f [] (.slice none 0 0) W'
theorem fir_of {a : Bool} {l : Bs} {w W W' : World} {P4 P5 : Nat} {m p : Bs} {z : Int} (hS : RdS w P4 P5 f00 [] (.slice none 0 0) W) (hx : W'.heap[P5]? = some (.cells (gcs m p z (.slice none 0 0) [] 0 false 0) 93 (0, 0))) (ho : Only (fun k => k = P5) W W') (hf : ∀ f, opf a l = some f → m = f.m ∧ p = f.p ∧ z = (f.s : Nat)) : Fir a l w P4 P5 W' := by
  have x4 : W'.heap[P4]? = some (.cells (gz 0) 93 (0, 0)) := (ho.block P4 (lt_of_row hS.x4) hS.ge.2.2).trans hS.x4
  have bel : Below w.heap.size w W' := ho.below hS.bel hS.bel.size (fun k e => by have := hS.ge.2.1; omega)
  refine ⟨x4, bel, fun f h => ?_⟩
  obtain ⟨rfl, rfl, rfl⟩ := hf f h
  exact ⟨x4, hx, World.ownsRow_nil _ _ _ _, (fun k h => nomatch h), hS.ge, bel⟩
theorem rtold_fir (l : Bs) (hl : l.length ≤ 1000000) {w W : World} {P4 P5 : Nat} (hS : RdS w P4 P5 f00 [] (.slice none 0 0) W) : Calls Tryz.prog 78 #[ptr P5, S l] W fun r W' => r = .returned (.bool (opf true l).isSome) ∧ Fir true l w P4 P5 W' := by
  refine (rtold_any P5 [] [] 0 (.slice none 0 0) [] 0 false 0 l W hl hS.x5).mono ?_
  rintro r W' ⟨rfl, z, h1, h2, h3⟩
  have e : opf true l = if tlb l = true then some ⟨[], [], tlv l⟩ else none := opA_tlb l
  refine ⟨?_, fir_of hS h1 h2 (fun f hf => ?_)⟩
  · rw [e]
    cases tlb l <;> rfl
  · rw [e] at hf
    split at hf
    · rename_i q
      cases hf
      exact ⟨rfl, rfl, h3 q⟩
    · cases hf
theorem rasked_fir (l : Bs) (hl : l.length ≤ 1000000) {w W : World} {P4 P5 : Nat} (hS : RdS w P4 P5 f00 [] (.slice none 0 0) W) : Calls Tryz.prog 79 #[ptr P5, S l] W fun r W' => r = .returned (.bool (opf false l).isSome) ∧ Fir false l w P4 P5 W' := by
  refine (rasked_any P5 [] [] 0 (.slice none 0 0) [] 0 false 0 l W hl hS.x5).mono ?_
  rintro r W' ⟨rfl, m, p, h1, h2, h3⟩
  refine ⟨rfl, fir_of hS h1 h2 (fun f hf => ?_)⟩
  have hf' : opM l = some f := hf
  have hs0 : f.s = 0 := by
    unfold opM at hf'
    split at hf'
    · cases hf'; rfl
    · cases hf'
  exact ⟨(h3 f hf').1, (h3 f hf').2, by rw [hs0]; rfl⟩
theorem RdS.push {w wr w' : World} {P4 P5 : Nat} {f : Fst} {hs : List Fl} {hv V : Value} {x y : Bs} (h : RdS w P4 P5 f hs hv wr) (r1 : w'.ownsRow 0 35 2 V (hs.length + 1) (cellsF hs ++ [S x, S y])) (r2 : Only (fun k => hv.ownBlock = some k) wr w') (r3 : ∀ k, V.ownBlock = some k → hv.ownBlock = some k ∨ wr.heap.size ≤ k) :
    RdS w P4 P5 f (hs ++ [(x, y)]) V (w'.setCell ⟨P5, 3, none⟩ V) ∧ w'.cell? ⟨P5, 3, none⟩ = some hv ∧ w'.frozen? ⟨P5, 3, none⟩ = false ∧ P5 < w'.heap.size := by
  have n4 : ¬ hv.ownBlock = some P4 := fun e => own_ne h.x4 h.row (by decide) P4 e rfl
  have n5 : ¬ hv.ownBlock = some P5 := fun e => own_ne h.x5 h.row (by decide) P5 e rfl
  have x4 := (r2.block P4 (lt_of_row h.x4) n4).trans h.x4
  have x5 := (r2.block P5 (lt_of_row h.x5) n5).trans h.x5
  have r1' : w'.ownsRow 0 35 2 V (hs ++ [(x, y)]).length (cellsF (hs ++ [(x, y)])) := by rw [List.length_append, cellsF_append]; exact r1
  refine ⟨⟨(heap_setCell_other w' _ _ V h.ge.2.2).trans x4, heap_setCell_same w' P5 3 _ 93 V x5, owns_same r1' (fun k hk => heap_setCell_other w' _ _ V (own_ne x5 r1' (by decide) k hk)), ?_, h.ge, ?_⟩, cell_of_row w' _ 3 _ 93 (0, 0) x5, frozen_of_heap x5 3, lt_of_row x5⟩
  · intro k hk
    rcases r3 k hk with q | q
    · exact h.new k q
    · exact Nat.le_trans h.bel.size q
  · exact (r2.below h.bel h.bel.size h.new).setCell h.ge.2.1 _
/-- A body, laid into the box, and how far it went. -/
structure Bdd (w : World) (P4 P5 : Nat) (f : Fst) (hs : List Fl) (hv : Value) (bd : Bs) (N : Int) (wr : World) : Prop where
  d4 : wr.cell? ⟨P5, 4, none⟩ = some (S [])
  z4 : wr.frozen? ⟨P5, 4, none⟩ = false
  d5 : (wr.setCell ⟨P5, 4, none⟩ (S bd)).cell? ⟨P5, 5, none⟩ = some (.int .i64 0)
  z5 : (wr.setCell ⟨P5, 4, none⟩ (S bd)).frozen? ⟨P5, 5, none⟩ = false
  d6 : ((wr.setCell ⟨P5, 4, none⟩ (S bd)).setCell ⟨P5, 5, none⟩ (.int .i64 N)).cell? ⟨P5, 6, none⟩ = some (.bool false)
  z6 : ((wr.setCell ⟨P5, 4, none⟩ (S bd)).setCell ⟨P5, 5, none⟩ (.int .i64 N)).frozen? ⟨P5, 6, none⟩ = false
  x5 : (((wr.setCell ⟨P5, 4, none⟩ (S bd)).setCell ⟨P5, 5, none⟩ (.int .i64 N)).setCell ⟨P5, 6, none⟩ (.bool true)).heap[P5]? = some (.cells (gcs f.m f.p (f.s : Nat) hv bd N true 0) 93 (0, 0))
  x4 : (((wr.setCell ⟨P5, 4, none⟩ (S bd)).setCell ⟨P5, 5, none⟩ (.int .i64 N)).setCell ⟨P5, 6, none⟩ (.bool true)).heap[P4]? = some (.cells (gz 0) 93 (0, 0))
  fin : ((((wr.setCell ⟨P5, 4, none⟩ (S bd)).setCell ⟨P5, 5, none⟩ (.int .i64 N)).setCell ⟨P5, 6, none⟩ (.bool true)).setRow P4 (gcs f.m f.p (f.s : Nat) hv bd N true 0)).heap[P4]? = some (.cells (gcs f.m f.p (f.s : Nat) hv bd N true 0) 93 (0, 0))
  bel : Below w.heap.size w ((((wr.setCell ⟨P5, 4, none⟩ (S bd)).setCell ⟨P5, 5, none⟩ (.int .i64 N)).setCell ⟨P5, 6, none⟩ (.bool true)).setRow P4 (gcs f.m f.p (f.s : Nat) hv bd N true 0))
  row : ((((wr.setCell ⟨P5, 4, none⟩ (S bd)).setCell ⟨P5, 5, none⟩ (.int .i64 N)).setCell ⟨P5, 6, none⟩ (.bool true)).setRow P4 (gcs f.m f.p (f.s : Nat) hv bd N true 0)).ownsRow 0 35 2 hv hs.length (cellsF hs)
theorem RdS.bdd {w wr : World} {P4 P5 : Nat} {f : Fst} {hs : List Fl} {hv : Value} (h : RdS w P4 P5 f hs hv wr) (bd : Bs) (N : Int) : Bdd w P4 P5 f hs hv bd N wr := by
  have xa : (wr.setCell ⟨P5, 4, none⟩ (S bd)).heap[P5]? = some (.cells (gcs f.m f.p (f.s : Nat) hv bd 0 false 0) 93 (0, 0)) := heap_setCell_same wr P5 4 _ 93 _ h.x5
  have xb : ((wr.setCell ⟨P5, 4, none⟩ (S bd)).setCell ⟨P5, 5, none⟩ (.int .i64 N)).heap[P5]? = some (.cells (gcs f.m f.p (f.s : Nat) hv bd N false 0) 93 (0, 0)) := heap_setCell_same _ P5 5 _ 93 _ xa
  have xc : (((wr.setCell ⟨P5, 4, none⟩ (S bd)).setCell ⟨P5, 5, none⟩ (.int .i64 N)).setCell ⟨P5, 6, none⟩ (.bool true)).heap[P5]? = some (.cells (gcs f.m f.p (f.s : Nat) hv bd N true 0) 93 (0, 0)) := heap_setCell_same _ P5 6 _ 93 _ xb
  have ot : ∀ k, k ≠ P5 → (((wr.setCell ⟨P5, 4, none⟩ (S bd)).setCell ⟨P5, 5, none⟩ (.int .i64 N)).setCell ⟨P5, 6, none⟩ (.bool true)).heap[k]? = wr.heap[k]? := fun k hk => (heap_setCell_other _ ⟨P5, 6, none⟩ k _ hk).trans ((heap_setCell_other _ ⟨P5, 5, none⟩ k _ hk).trans (heap_setCell_other _ ⟨P5, 4, none⟩ k _ hk))
  have x4 := (ot P4 h.ge.2.2).trans h.x4
  have bel := ((h.bel.setCell (p := ⟨P5, 4, none⟩) h.ge.2.1 (S bd)).setCell (p := ⟨P5, 5, none⟩) h.ge.2.1 (.int .i64 N)).setCell (p := ⟨P5, 6, none⟩) h.ge.2.1 (.bool true)
  have row := owns_same (w' := (((wr.setCell ⟨P5, 4, none⟩ (S bd)).setCell ⟨P5, 5, none⟩ (.int .i64 N)).setCell ⟨P5, 6, none⟩ (.bool true))) h.row (fun k hk => ot k (own_ne h.x5 h.row (by decide) k hk))
  have D := done0 x4 h.ge.1 bel (gcs f.m f.p (f.s : Nat) hv bd N true 0)
  exact ⟨cell_of_row wr _ 4 _ 93 (0, 0) h.x5, frozen_of_heap h.x5 4, cell_of_row _ _ 5 _ 93 (0, 0) xa, frozen_of_heap xa 5, cell_of_row _ _ 6 _ 93 (0, 0) xb, frozen_of_heap xb 6, xc, x4, D.1, D.2, owns_same row (fun k hk => setRow_other _ P4 k _ (own_ne x4 row (by decide) k hk))⟩
set_option maxHeartbeats 8000000 in
set_option maxRecDepth 8000 in
theorem rread_any (s : Bs) (a : Bool) (w : World) (hs : s.length ≤ 1000000000000) : Calls Tryz.prog 50 #[S s, .bool a] w fun r w' => RdR (sc (opf a) p0 s) s w r w' ∧ Below w.heap.size w w' := by
  have b1 := (Below.refl w.heap.size w).alloc (Nat.le_refl _) (.cells (gz 0) 93)
  have x1 := heap_alloc_new w (.cells (gz 0) 93)
  obtain ⟨W1, hW1⟩ : ∃ W1, W1 = w.alloc (.cells (gz 0) 93) := ⟨_, rfl⟩
  have z1 : W1.heap.size = w.heap.size + 1 := by subst hW1; simp
  rw [← hW1] at b1 x1
  have b2 := b1.alloc (by omega) (.cells (gz 0) 93)
  have x2 := heap_alloc_new W1 (.cells (gz 0) 93)
  have y1 := (heap_alloc_old W1 (.cells (gz 0) 93) (r := w.heap.size) (by omega)).trans x1
  rw [z1] at x2
  have HS : Hid (RdS w w.heap.size (w.heap.size + 1) f00 [] (.slice none 0 0) (W1.alloc (.cells (gz 0) 93))) := hide ⟨y1, x2, World.ownsRow_nil _ _ _ _, (fun k h => nomatch h), ⟨by omega, by omega, by omega⟩, b2⟩
  have HSC := hide (sc_first (opf a) s)
  generalize sc (opf a) p0 s = SC at *
  clear b1 b2 x1 x2 y1
  have HLn := hide (fun W => rline_any s 0 W (by omega) (Nat.zero_le _))
  go_enter Tryz.func50, Tryz.ntmps50
  go_wp2_with fail
  change Calls Tryz.prog 77 _ ((w.alloc (.cells (gz 0) 93)).alloc (.cells (gz 0) 93)) _
  rw [← hW1]
  generalize W1.alloc (.cells (gz 0) 93) = W2 at *
  have hP5 : w.heap.size + 1 ≠ w.heap.size := by omega
  rcases lnv_form s 0 s (by simp) with ⟨g1, e1⟩ | ⟨g1, g2, e1⟩ | ⟨g1, g2, e1⟩
  · rw [e1] at HLn
    have hSC := unhide HSC
    rw [if_pos g1] at hSC
    subst hSC
    refine (unhide HLn W2).mono ?_
    rintro e w1 ⟨rfl, hw1⟩
    rw [hw1]
    clear hw1 hW1
    have D := (unhide HS).done (gz 53)
    have x4 := (unhide HS).x4
    go_wp2_with (refine wp_st93 rfl (.tmp 4) (.tmp 32) rfl w.heap.size (by rfl) [] [] 0 none 0 0 [] 0 false 53 (by rfl) x4 ?_)
    exact fin50 rfl rfl D.1 ⟨rfl, D.2.1⟩
  · rw [e1] at HLn
    have hSC := unhide HSC
    rw [if_neg g1, if_pos g2] at hSC
    have HSC2 := hide hSC
    have htl : Hid (tl 10 s = s.drop ((hd 10 s).length + 1)) := hide (tl_drop 10 s g2)
    have hcl := cutr_le (hd 10 s)
    have HFa := hide (fun W (h : RdS w w.heap.size (w.heap.size + 1) f00 [] (.slice none 0 0) W) => rtold_fir (cutr (hd 10 s)) (by omega) h)
    have HFb := hide (fun W (h : RdS w w.heap.size (w.heap.size + 1) f00 [] (.slice none 0 0) W) => rasked_fir (cutr (hd 10 s)) (by omega) h)
    refine (unhide HLn W2).mono ?_
    rintro e w1 ⟨rfl, hw1⟩
    rw [hw1]
    clear hw1 hW1 hSC HSC HLn e1 z1
    have hne : ((0 + (hd 10 s).length + 1 : Nat) : Int) ≠ 0 := by omega
    have hk0 : (hd 10 s).length + 1 ≤ s.length := by omega
    generalize hn1 : 0 + (hd 10 s).length + 1 = n1 at *
    have HN1 := hide hn1
    have hne2 : ((n1 : Int) == 0) = false := by rw [beq_eq_false_iff_ne]; exact hne
    generalize cutr (hd 10 s) = tx at *
    generalize ret (hd 10 s) = rt at *
    clear hn1 hcl g1
    go_upto_if 36 with fail
    go_cut [10] from 36 to 40 (fun v wc => v = .bool (opf a tx).isSome ∧ Fir a tx w w.heap.size (w.heap.size + 1) wc)
    case first =>
      cases a with
      | true =>
        go_wp2_with fail
        refine (unhide HFa W2 (unhide HS)).mono ?_
        rintro e w1 ⟨rfl, hf1⟩
        have HF1 := hide hf1
        clear hf1
        go_wp2_with fail
        go_meet
        exact ⟨rfl, unhide HF1⟩
      | false =>
        go_wp2_with fail
        refine (unhide HFb W2 (unhide HS)).mono ?_
        rintro e w1 ⟨rfl, hf1⟩
        have HF1 := hide hf1
        clear hf1
        go_wp2_with fail
        go_meet
        exact ⟨rfl, unhide HF1⟩
    case rest =>
      obtain ⟨rfl, hF⟩ := hcut
      have HF := hide hF
      clear hF HFa HFb HS
      have HE50 := hide (fun W (x4 : W.heap[w.heap.size]? = some (.cells (gz 0) 93 (0, 0))) (hb : Below w.heap.size w W) (n : Nat) => done0 x4 (Nat.le_refl _) hb (gz n))
      cases hop : opf a tx with
      | none =>
        have hSC := unhide HSC2
        rw [hop] at hSC
        simp only at hSC
        subst hSC
        have D := unhide HE50 _ (unhide HF).x4 (unhide HF).bel 50
        have x4 := (unhide HF).x4
        clear hop
        go_wp2_with (refine wp_st93 rfl (.tmp 4) (.tmp 47) rfl w.heap.size (by rfl) [] [] 0 none 0 0 [] 0 false 50 (by rfl) x4 ?_)
        exact fin50 rfl rfl D.1 ⟨rfl, D.2⟩
      | some f =>
        have hSC := unhide HSC2
        rw [hop] at hSC
        simp only at hSC
        cases rt with
        | false =>
          simp only [Bool.false_eq_true, if_false] at hSC
          subst hSC
          have D := unhide HE50 _ (unhide HF).x4 (unhide HF).bel 50
          have x4 := (unhide HF).x4
          clear hop
          go_wp2_with (refine wp_st93 rfl (.tmp 4) (.tmp 47) rfl w.heap.size (by rfl) [] [] 0 none 0 0 [] 0 false 50 (by rfl) x4 ?_)
          exact fin50 rfl rfl D.1 ⟨rfl, D.2⟩
        | true =>
          simp only [if_true] at hSC
          have hn1 := unhide HN1
          rw [unhide htl, show (hd 10 s).length + 1 = n1 by omega] at hSC
          have HR := hide ((unhide HF).ok f hop)
          have HSC3 := hide hSC
          have hn1s : n1 ≤ s.length := by omega
          clear hSC HSC2 htl HF hop hne hne2 hn1 hk0 g2
          go_wp2
          go_loopw [7, 11] (fun i bd wr => ∃ (k : Nat) (hs : List Fl) (len : Int) (hv : Value), k ≤ s.length ∧ i = .int .i64 k ∧ bd = .int .i64 len ∧ (-1 ≤ len ∧ len ≤ 4000) ∧ hs.length ≤ 32 ∧ SC = sc (opf a) ⟨1, k, [], f, hs, len, []⟩ (s.drop k) ∧ RdS w w.heap.size (w.heap.size + 1) f hs hv wr) (fun i _ _ => s.length - (Go.RowKit.intOf i).toNat)
          case atStart => exact ⟨n1, [], -1, .slice none 0 0, hn1s, rfl, rfl, by omega, by simp, unhide HSC3, unhide HR⟩
          case round =>
            obtain ⟨k, hs', len, hv, hk, rfl, rfl, hlen, hhs, hSC, hR⟩ := hrel
            clear HSC3 HR HN1 hn1s
            have HR := hide hR
            have HSC := hide hSC
            clear hR hSC
            have HLn := hide (rline_any s k wr (by omega) hk)
            obtain ⟨t, ht⟩ : ∃ t, t = s.drop k := ⟨_, rfl⟩
            rw [← ht] at HSC
            have htlen : t.length = s.length - k := by rw [ht, List.length_drop]
            rcases lnv_form s k t ht with ⟨g1, e1⟩ | ⟨g1, g2, e1⟩ | ⟨g1, g2, e1⟩
            · rw [e1] at HLn
              have hSC := unhide HSC
              rw [sc_next _ _ _ _ _ _ _ rfl, if_pos g1] at hSC
              subst hSC
              have D := unhide HE50 _ (unhide HR).x4 (unhide HR).bel 53
              have x4 := (unhide HR).x4
              clear ht htlen e1
              go_wp2_with (first | (refine (unhide HLn).mono ?_; rintro e w1 ⟨rfl, rfl⟩) | (refine wp_st93 rfl (.tmp 4) (.tmp 57) rfl w.heap.size (by rfl) [] [] 0 none 0 0 [] 0 false 53 (by rfl) x4 ?_))
              exact fin50 rfl rfl D.1 ⟨rfl, D.2⟩
            · rw [e1] at HLn
              have hSC := unhide HSC
              rw [sc_next _ _ _ _ _ _ _ rfl, if_neg g1, if_pos g2] at hSC
              have htl : tl 10 t = s.drop (k + (hd 10 t).length + 1) := by rw [tl_drop 10 t g2, ht, List.drop_drop, Nat.add_assoc]
              have hcl := cutr_le (hd 10 t)
              rw [htl] at hSC
              have hn2s : k + (hd 10 t).length + 1 ≤ s.length := by omega
              have hkn2 : k < k + (hd 10 t).length + 1 := by omega
              have htx : (cutr (hd 10 t)).length ≤ 1001 := by omega
              generalize k + (hd 10 t).length + 1 = n2 at *
              generalize cutr (hd 10 t) = tx2 at *
              generalize ret (hd 10 t) = rt2 at *
              clear htl hcl ht htlen e1 g1 g2 HSC
              obtain ⟨hq, hc, hvE⟩ := owns_form (unhide HR).row
              subst hvE
              have hn20 : ((n2 : Int) == 0) = false := by rw [beq_eq_false_iff_ne]; omega
              have hdl : (s.drop n2).length = s.length - n2 := List.length_drop
              have HKN := hide hkn2
              have hk63 : n2 ≤ 1000000000000 := by omega
              clear hkn2
              have HSCx := hide hSC
              clear hSC
              go_wp2_with fail
              refine (unhide HLn).mono ?_
              rintro e w1 ⟨rfl, hw1⟩
              rw [hw1]
              clear hw1 HLn
              go_upto_region 20 with fail
              have hSC := unhide HSCx
              clear HSCx
              by_cases hend : rt2 = true ∧ tx2 = []
              · obtain ⟨rfl, rfl⟩ := hend
                rw [if_pos (by rfl)] at hSC
                by_cases h0 : len ≤ 0
                · rw [if_pos h0] at hSC
                  have HSC4 := hide hSC
                  clear hSC
                  have BD := (unhide HR).bdd [] n2
                  have FIN := hide (And.intro BD.fin (And.intro BD.bel (And.intro BD.row (unhide HR).new)))
                  have d4 := BD.d4
                  have z4 := BD.z4
                  have d5 : (wr.setCell ⟨w.heap.size + 1, 4, none⟩ (Value.string ByteArray.empty)).cell? ⟨w.heap.size + 1, 5, none⟩ = some (.int .i64 0) := BD.d5
                  have z5 : (wr.setCell ⟨w.heap.size + 1, 4, none⟩ (Value.string ByteArray.empty)).frozen? ⟨w.heap.size + 1, 5, none⟩ = false := BD.z5
                  have d6 : ((wr.setCell ⟨w.heap.size + 1, 4, none⟩ (Value.string ByteArray.empty)).setCell ⟨w.heap.size + 1, 5, none⟩ (.int .i64 (n2 : Nat))).cell? ⟨w.heap.size + 1, 6, none⟩ = some (.bool false) := BD.d6
                  have z6 : ((wr.setCell ⟨w.heap.size + 1, 4, none⟩ (Value.string ByteArray.empty)).setCell ⟨w.heap.size + 1, 5, none⟩ (.int .i64 (n2 : Nat))).frozen? ⟨w.heap.size + 1, 6, none⟩ = false := BD.z6
                  have x5 : (((wr.setCell ⟨w.heap.size + 1, 4, none⟩ (Value.string ByteArray.empty)).setCell ⟨w.heap.size + 1, 5, none⟩ (.int .i64 (n2 : Nat))).setCell ⟨w.heap.size + 1, 6, none⟩ (.bool true)).heap[w.heap.size + 1]? = some (.cells (gcs f.m f.p (f.s : Nat) (.slice hq hs'.length hc) [] (n2 : Nat) true 0) 93 (0, 0)) := BD.x5
                  have x4 : (((wr.setCell ⟨w.heap.size + 1, 4, none⟩ (Value.string ByteArray.empty)).setCell ⟨w.heap.size + 1, 5, none⟩ (.int .i64 (n2 : Nat))).setCell ⟨w.heap.size + 1, 6, none⟩ (.bool true)).heap[w.heap.size]? = some (.cells (gz 0) 93 (0, 0)) := BD.x4
                  obtain ⟨r0, r1, r2, r3, r4, r5, r6, r7⟩ := row8 x5
                  clear x5 BD
                  have hle : (n2 : Int) ≤ (s.length : Int) := by omega
                  have hge : ¬ (s.length : Int) - (n2 : Int) < 0 := by omega
                  have hpl := lt_of_row (unhide HR).x5
                  by_cases hneg : len < 0
                  · clear h0 hdl
                    go_wp2_with ((refine wp_st93 rfl (.tmp 4) (.tmp 149) rfl w.heap.size (by rfl) f.m f.p (f.s : Nat) hq hs'.length hc [] (n2 : Nat) true 0 (by rfl) x4 ?_))
                    exact fin50 rfl rfl (unhide FIN).1 ⟨by rw [unhide HSC4]; exact ⟨_, rfl, (unhide FIN).2.2.1, (unhide FIN).2.2.2, rfl⟩, (unhide FIN).2.1⟩
                  · obtain rfl : len = 0 := by omega
                    clear h0 hdl
                    go_wp2_with ((refine wp_st93 rfl (.tmp 4) (.tmp 149) rfl w.heap.size (by rfl) f.m f.p (f.s : Nat) hq hs'.length hc [] (n2 : Nat) true 0 (by rfl) x4 ?_))
                    exact fin50 rfl rfl (unhide FIN).1 ⟨by rw [unhide HSC4]; exact ⟨_, rfl, (unhide FIN).2.2.1, (unhide FIN).2.2.2, rfl⟩, (unhide FIN).2.1⟩
                · rw [if_neg h0] at hSC
                  obtain ⟨ln, rfl⟩ : ∃ ln : Nat, len = ln := ⟨len.toNat, by omega⟩
                  have hneg : ¬ (ln : Int) < 0 := by omega
                  by_cases hsh : s.length < n2 + ln
                  · rw [if_pos (by rw [hdl]; omega)] at hSC
                    subst hSC
                    have D := unhide HE50 _ (unhide HR).x4 (unhide HR).bel 0
                    have x4 := (unhide HR).x4
                    have hlt : (s.length : Int) - (n2 : Int) < (ln : Int) := by omega
                    clear h0 hdl
                    go_wp2_with ((refine wp_st93 rfl (.tmp 4) (.tmp 136) rfl w.heap.size (by rfl) [] [] 0 none 0 0 [] 0 false 0 (by rfl) x4 ?_))
                    exact fin50 rfl rfl D.1 ⟨rfl, D.2⟩
                  · rw [if_neg (by rw [hdl]; omega)] at hSC
                    simp only [Int.toNat_natCast] at hSC
                    have HSC4 := hide hSC
                    clear hSC
                    have BD := (unhide HR).bdd ((s.drop n2).take ln) ((n2 + ln : Nat) : Int)
                    rw [Int.natCast_add] at BD
                    have FIN := hide (And.intro BD.fin (And.intro BD.bel (And.intro BD.row (unhide HR).new)))
                    obtain ⟨r0, r1, r2, r3, r4, r5, r6, r7⟩ := row8 BD.x5
                    obtain ⟨d4, z4, d5, z5, d6, z6, _, x4, _, _, _⟩ := BD
                    have hX : (ByteArray.mk s.toArray).extract n2 (n2 + ln) = ⟨((s.drop n2).take ln).toArray⟩ := by rw [extract_eq, Nat.add_sub_cancel_left]
                    have hle : (n2 : Int) ≤ (n2 : Int) + (ln : Int) := by omega
                    have hle2 : (n2 : Int) + (ln : Int) ≤ (s.length : Int) := by omega
                    have hge : ¬ (s.length : Int) - (n2 : Int) < (ln : Int) := by omega
                    have hpl := lt_of_row (unhide HR).x5
                    clear h0 hdl
                    go_wp2_with ((refine wp_st93 rfl (.tmp 4) (.tmp 149) rfl w.heap.size (by rfl) f.m f.p (f.s : Nat) hq hs'.length hc ((s.drop n2).take ln) ((n2 : Int) + (ln : Int)) true 0 (by rfl) x4 ?_))
                    exact fin50 rfl rfl (unhide FIN).1 ⟨by rw [unhide HSC4]; exact ⟨_, rfl, (unhide FIN).2.2.1, (unhide FIN).2.2.2, by rw [List.drop_drop]⟩, (unhide FIN).2.1⟩
              · rw [if_neg (by simp only [Bool.and_eq_true]; intro q; exact hend ⟨q.1, by simpa using q.2⟩)] at hSC
                have HSC4 := hide hSC
                clear hSC
                have hcase : (tx2 == []) = false ∨ (tx2 = [] ∧ rt2 = false) := by
                  by_cases q : tx2 = []
                  · right
                    refine ⟨q, ?_⟩
                    cases rt2 with
                    | false => rfl
                    | true => exact absurd ⟨rfl, q⟩ hend
                  · left
                    simpa using q
                obtain ⟨nn, vv, is2, ec, fc⟩ := rct_form 58 tx2
                have HCt := hide (rcut_any 58 tx2 wr (by omega))
                rw [ec] at HCt
                have hnl : nn.length ≤ 1001 ∧ vv.length ≤ 1001 := by
                  rcases fc with ⟨_, rfl, rfl, _⟩ | ⟨_, rfl, rfl, _⟩
                  · exact ⟨Nat.le_trans (hd_le 58 tx2) htx, Nat.le_trans (tl_le 58 tx2) htx⟩
                  · exact ⟨Nat.zero_le _, Nat.zero_le _⟩
                have HNm := hide (fun W => rName_any nn W (by omega))
                have HWt := hide (fun W => within_any vv 32 126 W (by omega))
                rw [wth_shn] at HWt
                have HSm := hide (fun W => small_wide nn W (by omega))
                have HTr := hide (fun W => trimmed_any vv W (by omega))
                have hj51 : (rt2 && (is2 && (hnm nn && (vv.all shn && !alk nn TE)))) = false → jHdr ⟨1, n2, [], f, hs', len, []⟩ tx2 rt2 = (pov, 51) := by
                  intro hb
                  unfold jHdr
                  rw [if_pos]
                  rcases fc with ⟨rfl, rfl, rfl, q⟩ | ⟨rfl, rfl, rfl, q⟩
                  · rw [decide_eq_true q]
                    revert hb
                    cases rt2 <;> cases hnm (hd 58 tx2) <;> cases (tl 58 tx2).all shn <;> cases alk (hd 58 tx2) TE <;> simp
                  · rw [decide_eq_false q]
                    simp
                have hjok : (rt2 && (is2 && (hnm nn && (vv.all shn && !alk nn TE)))) = true → jHdr ⟨1, n2, [], f, hs', len, []⟩ tx2 rt2 = if alk nn CL then jLen ⟨1, n2, [], f, hs', len, []⟩ (trimB vv 32) else if hs'.length = 32 then (pov, 53) else (⟨1, n2, [], f, hs' ++ [(nn, trimB vv 32)], len, []⟩, 0) := by
                  intro hb
                  simp only [Bool.and_eq_true, Bool.not_eq_true'] at hb
                  obtain ⟨rfl, b2, b3, b4, b5⟩ := hb
                  rcases fc with ⟨_, rfl, rfl, q⟩ | ⟨q1, _⟩
                  · unfold jHdr
                    rw [decide_eq_true q, b3, b4, b5]
                    rfl
                  · rw [q1] at b2; cases b2
                have HJB := hide hj51
                have HJO := hide hjok
                generalize jHdr ⟨1, n2, [], f, hs', len, []⟩ tx2 rt2 = J at *
                have hte : Hid (alk nn TE = (nn.map low == [116, 114, 97, 110, 115, 102, 101, 114, 45, 101, 110, 99, 111, 100, 105, 110, 103])) := hide (alk_te nn)
                have hcl : Hid (alk nn CL = (nn.map low == [99, 111, 110, 116, 101, 110, 116, 45, 108, 101, 110, 103, 116, 104])) := hide (alk_cl nn)
                have htl2 : (trimB vv 32).length ≤ 1001 := by
                  have : (trimB vv 32).length ≤ vv.length := by
                    unfold trimB trimLeftB trimRightB
                    refine Nat.le_trans (List.dropWhile_sublist _).length_le ?_
                    rw [List.length_reverse]
                    refine Nat.le_trans (List.dropWhile_sublist _).length_le ?_
                    simp
                  omega
                have HSz := hide (fun W => rsize_any (trimB vv 32) W (by omega))
                have HTL := hide htl2
                have HHS := hide (And.intro hhs hlen)
                clear hj51 hjok ec fc hend htx htl2 hnl
                generalize alk nn TE = aT at *
                generalize alk nn CL = aC at *
                generalize trimB vv 32 = v2 at *
                generalize hnm nn = bN at *
                generalize vv.all shn = bV at *
                generalize hml : nn.map low = ml at *
                clear hml
                rcases hcase with hA | ⟨rfl, rfl⟩
                rotate_left
                · have hJ51 := unhide HJB rfl
                  clear HJB HJO
                  go_wp2_with fail
                  refine (unhide HCt).mono ?_
                  rintro e w1 ⟨rfl, bC⟩
                  have HR1 := hide ((unhide HR).below bC)
                  clear bC HCt HR
                  go_wp2_with fail
                  refine (unhide HNm w1).mono ?_
                  rintro e w2 ⟨rfl, hw2⟩
                  rw [hw2]
                  clear hw2 HNm
                  go_wp2_with fail
                  refine (unhide HWt w1).mono ?_
                  rintro e w2 ⟨rfl, hw2⟩
                  rw [hw2]
                  clear hw2 HWt
                  go_wp2_with fail
                  refine (unhide HSm w1).mono ?_
                  rintro e w2 ⟨rfl, bS⟩
                  have HR2 := hide ((unhide HR1).below bS)
                  clear bS HSm HR1
                  have hSC := unhide HSC4
                  rw [hJ51] at hSC
                  rw [if_pos (by decide)] at hSC
                  have HSC5 := hide hSC
                  clear hSC HSC4 hJ51
                  have D := unhide HE50 _ (unhide HR2).x4 (unhide HR2).bel 51
                  have x4 := (unhide HR2).x4
                  go_wp2_with (refine wp_st93 rfl (.tmp 4) (.tmp 97) rfl w.heap.size (by rfl) [] [] 0 none 0 0 [] 0 false 51 (by rfl) x4 ?_)
                  exact fin50 rfl rfl D.1 ⟨by rw [unhide HSC5]; exact rfl, D.2⟩
                · skip
                  go_wp2_with fail
                  refine (unhide HCt).mono ?_
                  rintro e w1 ⟨rfl, bC⟩
                  have HR1 := hide ((unhide HR).below bC)
                  clear bC HCt HR
                  go_wp2_with fail
                  refine (unhide HNm w1).mono ?_
                  rintro e w2 ⟨rfl, hw2⟩
                  rw [hw2]
                  clear hw2 HNm
                  go_wp2_with fail
                  refine (unhide HWt w1).mono ?_
                  rintro e w2 ⟨rfl, hw2⟩
                  rw [hw2]
                  clear hw2 HWt
                  go_wp2_with fail
                  refine (unhide HSm w1).mono ?_
                  rintro e w2 ⟨rfl, bS⟩
                  have HR2 := hide ((unhide HR1).below bS)
                  clear bS HSm HR1
                  cases rt2 with
                  | false =>
                    have hJ51 := unhide HJB (by simp)
                    clear HJB HJO
                    have hSC := unhide HSC4
                    rw [hJ51] at hSC
                    rw [if_pos (by decide)] at hSC
                    have HSC5 := hide hSC
                    clear hSC HSC4 hJ51
                    have D := unhide HE50 _ (unhide HR2).x4 (unhide HR2).bel 51
                    have x4 := (unhide HR2).x4
                    go_wp2_with (refine wp_st93 rfl (.tmp 4) (.tmp 97) rfl w.heap.size (by rfl) [] [] 0 none 0 0 [] 0 false 51 (by rfl) x4 ?_)
                    exact fin50 rfl rfl D.1 ⟨by rw [unhide HSC5]; exact rfl, D.2⟩
                  | true =>
                    cases is2 with
                    | false =>
                      have hJ51 := unhide HJB (by simp)
                      clear HJB HJO
                      have hSC := unhide HSC4
                      rw [hJ51] at hSC
                      rw [if_pos (by decide)] at hSC
                      have HSC5 := hide hSC
                      clear hSC HSC4 hJ51
                      have D := unhide HE50 _ (unhide HR2).x4 (unhide HR2).bel 51
                      have x4 := (unhide HR2).x4
                      go_wp2_with (refine wp_st93 rfl (.tmp 4) (.tmp 97) rfl w.heap.size (by rfl) [] [] 0 none 0 0 [] 0 false 51 (by rfl) x4 ?_)
                      exact fin50 rfl rfl D.1 ⟨by rw [unhide HSC5]; exact rfl, D.2⟩
                    | true =>
                      cases bN with
                      | false =>
                        have hJ51 := unhide HJB (by simp)
                        clear HJB HJO
                        have hSC := unhide HSC4
                        rw [hJ51] at hSC
                        rw [if_pos (by decide)] at hSC
                        have HSC5 := hide hSC
                        clear hSC HSC4 hJ51
                        have D := unhide HE50 _ (unhide HR2).x4 (unhide HR2).bel 51
                        have x4 := (unhide HR2).x4
                        go_wp2_with (refine wp_st93 rfl (.tmp 4) (.tmp 97) rfl w.heap.size (by rfl) [] [] 0 none 0 0 [] 0 false 51 (by rfl) x4 ?_)
                        exact fin50 rfl rfl D.1 ⟨by rw [unhide HSC5]; exact rfl, D.2⟩
                      | true =>
                        cases bV with
                        | false =>
                          have hJ51 := unhide HJB (by simp)
                          clear HJB HJO
                          have hSC := unhide HSC4
                          rw [hJ51] at hSC
                          rw [if_pos (by decide)] at hSC
                          have HSC5 := hide hSC
                          clear hSC HSC4 hJ51
                          have D := unhide HE50 _ (unhide HR2).x4 (unhide HR2).bel 51
                          have x4 := (unhide HR2).x4
                          go_wp2_with (refine wp_st93 rfl (.tmp 4) (.tmp 97) rfl w.heap.size (by rfl) [] [] 0 none 0 0 [] 0 false 51 (by rfl) x4 ?_)
                          exact fin50 rfl rfl D.1 ⟨by rw [unhide HSC5]; exact rfl, D.2⟩
                        | true =>
                          cases aT with
                          | true =>
                            have hJ51 := unhide HJB rfl
                            have hml2 := (unhide hte).symm
                            clear HJB HJO
                            have hSC := unhide HSC4
                            rw [hJ51] at hSC
                            rw [if_pos (by decide)] at hSC
                            have HSC5 := hide hSC
                            clear hSC HSC4 hJ51
                            have D := unhide HE50 _ (unhide HR2).x4 (unhide HR2).bel 51
                            have x4 := (unhide HR2).x4
                            go_wp2_with (refine wp_st93 rfl (.tmp 4) (.tmp 97) rfl w.heap.size (by rfl) [] [] 0 none 0 0 [] 0 false 51 (by rfl) x4 ?_)
                            exact fin50 rfl rfl D.1 ⟨by rw [unhide HSC5]; exact rfl, D.2⟩
                          | false =>
                            have hml2 := (unhide hte).symm
                            have hJ := unhide HJO rfl
                            clear HJB HJO
                            go_wp2_with fail
                            refine (unhide HTr w2).mono ?_
                            rintro e w3 ⟨rfl, hw3⟩
                            rw [hw3]
                            clear hw3 HTr
                            cases aC with
                            | true =>
                              have hml3 := (unhide hcl).symm
                              rw [if_pos rfl] at hJ
                              unfold jLen at hJ
                              by_cases hl0 : 0 ≤ len
                              · rw [if_pos (by have : ¬ len = -1 := by omega
                                               simp [this])] at hJ
                                have hSC := unhide HSC4
                                rw [hJ] at hSC
                                rw [if_pos (by decide)] at hSC
                                have HSC5 := hide hSC
                                clear hSC HSC4 hJ
                                have D := unhide HE50 _ (unhide HR2).x4 (unhide HR2).bel 52
                                have x4 := (unhide HR2).x4
                                go_wp2_with (refine wp_st93 rfl (.tmp 4) (.tmp 104) rfl w.heap.size (by rfl) [] [] 0 none 0 0 [] 0 false 52 (by rfl) x4 ?_)
                                exact fin50 rfl rfl D.1 ⟨by rw [unhide HSC5]; exact rfl, D.2⟩
                              · have hlm : len = -1 := by have := (unhide HHS).2; omega
                                subst hlm
                                have hSz : szv v2 = if num v2 = false then .tuple #[.int .i64 0, .int .i64 52] else if 4000 < vl 0 v2 then .tuple #[.int .i64 0, .int .i64 53] else .tuple #[.int .i64 (vl 0 v2 : Nat), .int .i64 0] := rfl
                                by_cases hnum : num v2 = true
                                · rw [if_neg (by simp [hnum])] at hSz
                                  rw [if_neg (by simp [hnum])] at hJ
                                  by_cases hbig : 4000 < vl 0 v2
                                  · rw [if_pos hbig] at hSz hJ
                                    rw [hSz] at HSz
                                    go_wp2_with fail
                                    refine (unhide HSz w2).mono ?_
                                    rintro e w3 ⟨rfl, hw3⟩
                                    rw [hw3]
                                    clear hw3 HSz hSz hnum
                                    have hSC := unhide HSC4
                                    rw [hJ] at hSC
                                    rw [if_pos (by decide)] at hSC
                                    have HSC5 := hide hSC
                                    clear hSC HSC4 hJ
                                    have D := unhide HE50 _ (unhide HR2).x4 (unhide HR2).bel 53
                                    have x4 := (unhide HR2).x4
                                    go_wp2_with (refine wp_st93 rfl (.tmp 4) (.tmp 113) rfl w.heap.size (by rfl) [] [] 0 none 0 0 [] 0 false 53 (by rfl) x4 ?_)
                                    exact fin50 rfl rfl D.1 ⟨by rw [unhide HSC5]; exact rfl, D.2⟩
                                  · rw [if_neg hbig] at hSz hJ
                                    rw [hSz] at HSz
                                    have hSC := unhide HSC4
                                    rw [hJ] at hSC
                                    rw [if_neg (by simp)] at hSC
                                    have HSC5 := hide hSC
                                    have HVL := hide (show vl 0 v2 ≤ 4000 by omega)
                                    clear hSC HSC4 hJ hSz hnum hbig
                                    generalize vl 0 v2 = VL at *
                                    go_wp2_with fail
                                    refine (unhide HSz w2).mono ?_
                                    rintro e w3 ⟨rfl, hw3⟩
                                    rw [hw3]
                                    clear hw3 HSz
                                    go_wp2
                                    go_roundw
                                    case rel =>
                                      repeat apply Exists.intro
                                      refine ⟨?_, rfl⟩
                                      exact ⟨n2, hs', (VL : Nat), _, hn2s, rfl, rfl, by have := unhide HVL; omega, (unhide HHS).1, unhide HSC5, unhide HR2⟩
                                    case measure =>
                                      have := unhide HKN
                                      simp [Go.RowKit.intOf]; omega
                                · have hnum' : num v2 = false := by simpa using hnum
                                  rw [if_pos hnum'] at hSz
                                  rw [if_pos (by simp [hnum'])] at hJ
                                  rw [hSz] at HSz
                                  go_wp2_with fail
                                  refine (unhide HSz w2).mono ?_
                                  rintro e w3 ⟨rfl, hw3⟩
                                  rw [hw3]
                                  clear hw3 HSz hSz hnum hnum'
                                  have hSC := unhide HSC4
                                  rw [hJ] at hSC
                                  rw [if_pos (by decide)] at hSC
                                  have HSC5 := hide hSC
                                  clear hSC HSC4 hJ
                                  have D := unhide HE50 _ (unhide HR2).x4 (unhide HR2).bel 52
                                  have x4 := (unhide HR2).x4
                                  go_wp2_with (refine wp_st93 rfl (.tmp 4) (.tmp 113) rfl w.heap.size (by rfl) [] [] 0 none 0 0 [] 0 false 52 (by rfl) x4 ?_)
                                  exact fin50 rfl rfl D.1 ⟨by rw [unhide HSC5]; exact rfl, D.2⟩
                            | false =>
                              have hml3 := (unhide hcl).symm
                              simp only [Bool.false_eq_true, if_false] at hJ
                              have d3 : w2.cell? ⟨w.heap.size + 1, 3, none⟩ = some (.slice hq hs'.length hc) := cell_of_row w2 _ 3 _ 93 (0, 0) (unhide HR2).x5
                              have hpl := lt_of_row (unhide HR2).x5
                              by_cases h32 : hs'.length = 32
                              · rw [if_pos h32] at hJ
                                have h32i : ((hs'.length : Int) == 32) = true := by rw [beq_iff_eq]; omega
                                have h32p : (hs'.length : Int) = 32 := by omega
                                clear h32
                                have hSC := unhide HSC4
                                rw [hJ] at hSC
                                rw [if_pos (by decide)] at hSC
                                have HSC5 := hide hSC
                                clear hSC HSC4 hJ
                                have D := unhide HE50 _ (unhide HR2).x4 (unhide HR2).bel 53
                                have x4 := (unhide HR2).x4
                                go_wp2_with (refine wp_st93 rfl (.tmp 4) (.tmp 119) rfl w.heap.size (by rfl) [] [] 0 none 0 0 [] 0 false 53 (by rfl) x4 ?_)
                                exact fin50 rfl rfl D.1 ⟨by rw [unhide HSC5]; exact rfl, D.2⟩
                              · rw [if_neg h32] at hJ
                                have h32i : ((hs'.length : Int) == 32) = false := by rw [beq_eq_false_iff_ne]; omega
                                have hSC := unhide HSC4
                                rw [hJ] at hSC
                                rw [if_neg (by simp)] at hSC
                                have HSC5 := hide hSC
                                have HH32 := hide (show hs'.length + 1 ≤ 32 by have := (unhide HHS).1; omega)
                                clear hSC HSC4 hJ h32
                                go_wp2_with (at_builtin; refine push_own 22 35 _ 2 32 Tryz.underlying22 info35 rfl (by decide) rfl (.tmp 121) (.tmp 125) rfl (.slice hq hs'.length hc) hs'.length (cellsF hs') (by rfl) w2 (unhide HR2).row [S nn, S v2] (by rfl) (by intro u hu; simp at hu; rcases hu with rfl | rfl <;> rfl) (by rfl) (by have := unhide HH32; omega) (by have := unhide HH32; omega) ?_; intro pb cb W5 ho5 hw5 hn5; obtain ⟨hp1, hp2, hp3, hp4⟩ := (unhide HR2).push ho5 hw5 hn5; have HP1 := hide hp1; clear hp1 ho5 hw5 hn5)
                                go_roundw
                                case rel =>
                                  repeat apply Exists.intro
                                  refine ⟨?_, rfl⟩
                                  exact ⟨n2, hs' ++ [(nn, v2)], len, _, hn2s, rfl, rfl, (unhide HHS).2, by rw [List.length_append]; exact unhide HH32, unhide HSC5, unhide HP1⟩
                                case measure =>
                                  have := unhide HKN
                                  simp [Go.RowKit.intOf]; omega
            · rw [e1] at HLn
              have hSC := unhide HSC
              rw [sc_next _ _ _ _ _ _ _ rfl, if_neg g1, if_neg g2] at hSC
              subst hSC
              have D := unhide HE50 _ (unhide HR).x4 (unhide HR).bel 0
              have x4 := (unhide HR).x4
              clear ht htlen e1
              go_wp2_with (first | (refine (unhide HLn).mono ?_; rintro e w1 ⟨rfl, rfl⟩) | (refine wp_st93 rfl (.tmp 4) (.tmp 60) rfl w.heap.size (by rfl) [] [] 0 none 0 0 [] 0 false 0 (by rfl) x4 ?_))
              exact fin50 rfl rfl D.1 ⟨rfl, D.2⟩
  · rw [e1] at HLn
    have hSC := unhide HSC
    rw [if_neg g1, if_neg g2] at hSC
    subst hSC
    refine (unhide HLn W2).mono ?_
    rintro e w1 ⟨rfl, hw1⟩
    rw [hw1]
    clear hw1 hW1
    have D := (unhide HS).done (gz 0)
    have x4 := (unhide HS).x4
    go_wp2_with (refine wp_st93 rfl (.tmp 4) (.tmp 35) rfl w.heap.size (by rfl) [] [] 0 none 0 0 [] 0 false 0 (by rfl) x4 ?_)
    exact fin50 rfl rfl D.1 ⟨rfl, D.2.1⟩
end Go.Proofs.YthlacailhfhjnaaGreatDoor
