import Derived.Test.YtllialbdofklgaaGreatDoorZzad
import Derived.Test.YtllialbdofklgaaGreatDoorZzak
import Derived.Laws.Tables
namespace Go.Proofs.YtllialbdofklgaaGreatDoor
open Go.RowKit
set_option maxHeartbeats 4000000
set_option maxRecDepth 8000
theorem Wt.text {w0 w : World} {b : Nat} {X : Bs} (h : Wt w0 b X w) (most : Nat) (s : Bs) (hm : most ≤ 255) (hs : s.length ≤ most) (hX : X.length ≤ 1000000000) :
    Calls Tryz.prog 90 #[ptr b, I most, S s] w fun e w' => e = .returned (.tuple #[]) ∧ Wt w0 b (X ++ (be 1 s.length ++ s)) w' := by
  obtain ⟨v, h1, h2, h3, h4⟩ := h
  refine (wtext_any b v X 0 most s w h1 (by omega)).mono ?_
  rintro e w' ⟨rfl, hw⟩
  have e1 : textE most s.length = 0 := by
    unfold textE
    rw [if_pos ⟨by omega, by omega⟩, if_pos (by omega)]
  have e2 : textY most s = be 1 s.length ++ s := by
    unfold textY ahd
    rw [if_pos (by omega)]
  rw [e1, e2, wPut_ok] at hw
  exact ⟨rfl, Wt.to h2 h3 h4 hw⟩
/-- A key, and its value, as they are laid. -/
def ent (lf : Bool) (k v : Bs) : Bs := (be 1 k.length ++ k) ++ (if lf then be 1 v.length ++ v else [])
/-- The first j of them. -/
def bdn (n : Nd) : Nat → Bs
  | 0 => be 1 n.keys.length
  | j + 1 => bdn n j ++ ent n.leaf (n.keys.getD j []) (n.vals.getD j [])
def bdy (n : Nd) : Bs := bdn n n.keys.length
theorem bdn_len (n : Nd) (hk : ∀ j, (n.keys.getD j []).length ≤ 36) (hv : ∀ j, (n.vals.getD j []).length ≤ 200) : ∀ j, (bdn n j).length ≤ 1 + 240 * j
  | 0 => by simp [bdn, be_len]
  | j + 1 => by
    have := bdn_len n hk hv j
    have := hk j
    have := hv j
    unfold bdn ent
    split <;> simp only [List.length_append, be_len, List.length_nil] <;> omega
theorem body_any (n : Nd) (ka va ia : Option Addr) (kc vc ic : Nat) (w : World) (h : NA n ka va ia w) (hk : ∀ j, (n.keys.getD j []).length ≤ 36) (hv : ∀ j, (n.vals.getD j []).length ≤ 200) (hn : n.keys.length ≤ 255) (hvl : n.leaf = true → n.vals.length = n.keys.length) :
    Calls Tryz.prog 60 #[nda n ka va ia kc vc ic] w fun e w' => e = .returned (S (bdy n)) ∧ Below w.heap.size w w' := by
  have hA := (Below.refl w.heap.size w).alloc (Nat.le_refl _) (.cells #[.bool n.leaf, .slice ka n.keys.length kc, .slice va n.vals.length vc, .slice ia n.kids.length ic] 25)
  have hg := heap_alloc_new w (.cells #[.bool n.leaf, .slice ka n.keys.length kc, .slice va n.vals.length vc, .slice ia n.kids.length ic] 25)
  have hz := lt_of_row hg
  have hna := h.below hA
  have HNA := hide hna
  have HA := hide hA
  have HG := hide hg
  have HBL := hide (bdn_len n hk hv)
  have HS := hide (p := ∀ j, bdn n (j + 1) = bdn n j ++ ((be 1 (n.keys.getD j []).length ++ n.keys.getD j []) ++ (if n.leaf = true then be 1 (n.vals.getD j []).length ++ n.vals.getD j [] else []))) (fun j => rfl)
  have h0 : bdn n 0 = be 1 n.keys.length := rfl
  have hend : bdy n = bdn n n.keys.length := rfl
  rw [hend]
  clear h hA hna hg hend
  have hks := hide (unhide HNA).ks
  have hvs := hide (unhide HNA).vs
  clear HNA
  generalize bdn n = D at *
  have hV := hide hvl
  clear hvl
  unfold nda
  generalize n.keys = ks at *
  generalize n.vals = vs at *
  generalize n.kids.length = il at *
  generalize n.leaf = lf at *
  clear n
  have H1 := hide (Wt.new (w.alloc (.cells #[.bool lf, .slice ka ks.length kc, .slice va vs.length vc, .slice ia il ic] 25)))
  generalize hW : w.alloc (.cells #[.bool lf, .slice ka ks.length kc, .slice va vs.length vc, .slice ia il ic] 25) = W1 at *
  go_enter Tryz.func60, Tryz.ntmps60
  go_wp2_with fail
  refine (unhide H1).mono ?_
  rintro e w2 ⟨rfl, h2⟩
  clear hW H1
  obtain ⟨d0, d1, d2, d3⟩ := box4 (unhide HG) h2.below hz
  have hz2 : w.heap.size < w2.heap.size := Nat.lt_of_lt_of_le hz h2.below.size
  have H2 := hide (h2.num 1 ks.length (by omega) (by omega) (by omega) (by omega) (by omega) (by simp))
  clear h2
  generalize hb : W1.heap.size = b at H2 ⊢
  go_wp2_with fail
  refine (unhide H2).mono ?_
  rintro e w3 ⟨rfl, h3⟩
  clear H2 d0 d1 d2 d3 hz2
  obtain ⟨d0, d1, d2, d3⟩ := box4 (unhide HG) h3.below hz
  have hz3 : w.heap.size < w3.heap.size := Nat.lt_of_lt_of_le hz h3.below.size
  rw [List.nil_append, Int.toNat_natCast, ← h0] at h3
  have HW := hide h3
  clear h3
  go_wp2
  go_loopw [17] (fun i wr => ∃ k : Nat, k ≤ ks.length ∧ i = .int .i64 k ∧ Wt W1 b (D k) wr) (fun i _ => ks.length - (Go.RowKit.intOf i).toNat)
  case atStart => exact ⟨0, by omega, rfl, unhide HW⟩
  case round =>
    clear HW d0 d1 d2 d3 hz3
    obtain ⟨k, hk1, rfl, hw⟩ := hrel
    by_cases hlt : k < ks.length
    · have hlt' : (k : Int) < (ks.length : Int) := by omega
      have hDl := unhide HBL k
      obtain ⟨p, o, rfl, hpl, hc0⟩ := ((unhide hks).below hw.below).at hlt
      have hk36 := hk k
      have HS1 := hide (unhide HS k)
      generalize hx : ks.getD k [] = x at *
      have H3 := hide (hw.text 36 x (by omega) (by omega) (by omega))
      clear hw
      go_wp2_with fail
      refine (unhide H3).mono ?_
      rintro e w4 ⟨rfl, h4⟩
      clear hc0 hpl H3
      obtain ⟨d0, d1, d2, d3⟩ := box4 (unhide HG) h4.below hz
      have hz4 : w.heap.size < w4.heap.size := Nat.lt_of_lt_of_le hz h4.below.size
      cases lf
      · have HW := hide h4
        clear h4
        go_wp2
        go_round
        case measure => simp [Go.RowKit.intOf]; omega
        case rel =>
          refine ⟨k + 1, by omega, by simp, ?_⟩
          rw [unhide HS1]
          simpa using unhide HW
      · have hvl := unhide hV rfl
        obtain ⟨p2, o2, e2, hp2, hc2⟩ := ((unhide hvs).below h4.below).at (show k < vs.length by omega)
        subst e2
        have hv200 := hv k
        generalize hy : vs.getD k [] = y at *
        have hkv : (k : Int) < (vs.length : Int) := by omega
        clear hvl
        have H4 := hide (h4.text 200 y (by omega) (by omega) (by simp only [List.length_append, be_len]; omega))
        clear h4
        go_wp2_with fail
        refine (unhide H4).mono ?_
        rintro e w5 ⟨rfl, h5⟩
        have HW := hide h5
        clear h5 H4
        go_wp2
        go_round
        case measure => simp [Go.RowKit.intOf]; omega
        case rel =>
          refine ⟨k + 1, by omega, by simp, ?_⟩
          rw [unhide HS1, if_pos trivial, ← List.append_assoc]
          exact unhide HW
    · have hlt' : ¬ (k : Int) < (ks.length : Int) := by omega
      obtain rfl : k = ks.length := by omega
      have H5 := hide hw.done
      clear hw
      go_wp2_with fail
      refine (unhide H5).mono ?_
      rintro e w6 ⟨rfl, h6⟩
      have HB := hide ((unhide HA).trans (h6.mono (unhide HA).size))
      clear h6
      go_wp2
      go_ret
      exact ⟨rfl, unhide HB⟩
end Go.Proofs.YtllialbdofklgaaGreatDoor
namespace Go.Proofs.YtllialbdofklgaaGreatDoor
open Go.RowKit
set_option maxHeartbeats 4000000
set_option maxRecDepth 8000
theorem loadVar27 (b : Nat) (x0 x1 x2 x3 x4 : Value) (W : World) (h0 : W.cell? ⟨b, 0, none⟩ = some x0) (h1 : W.cell? ⟨b, 1, none⟩ = some x1) (h2 : W.cell? ⟨b, 2, none⟩ = some x2) (h3 : W.cell? ⟨b, 3, none⟩ = some x3) (h4 : W.cell? ⟨b, 4, none⟩ = some x4) : (loadVar 27 ⟨b, 0, none⟩).run Tryz.prog W = .ok (.agg #[x0, x1, x2, x3, x4]) W := by
  have hl : (loadCells ⟨b, 0, none⟩ 5).run Tryz.prog W = .ok #[x0, x1, x2, x3, x4] W := by
    have := run_loadCells_list (P := Tryz.prog) W ⟨b, 0, none⟩ [x0, x1, x2, x3, x4] (fun j v hv => by
      match j, hv with
      | 0, hv => simp at hv; subst hv; simpa [Addr.add] using h0
      | 1, hv => simp at hv; subst hv; simpa [Addr.add] using h1
      | 2, hv => simp at hv; subst hv; simpa [Addr.add] using h2
      | 3, hv => simp at hv; subst hv; simpa [Addr.add] using h3
      | 4, hv => simp at hv; subst hv; simpa [Addr.add] using h4
      | (j + 5), hv => simp at hv)
    simpa using this
  simp [loadVar, Tryz.isAgg27, Tryz.sizeOf27, hl, Result.andThen]
theorem loadVar25 (b : Nat) (x0 x1 x2 x3 : Value) (W : World) (h0 : W.cell? ⟨b, 0, none⟩ = some x0) (h1 : W.cell? ⟨b, 1, none⟩ = some x1) (h2 : W.cell? ⟨b, 2, none⟩ = some x2) (h3 : W.cell? ⟨b, 3, none⟩ = some x3) : (loadVar 25 ⟨b, 0, none⟩).run Tryz.prog W = .ok (.agg #[x0, x1, x2, x3]) W := by
  have hl : (loadCells ⟨b, 0, none⟩ 4).run Tryz.prog W = .ok #[x0, x1, x2, x3] W := by
    have := run_loadCells_list (P := Tryz.prog) W ⟨b, 0, none⟩ [x0, x1, x2, x3] (fun j v hv => by
      match j, hv with
      | 0, hv => simp at hv; subst hv; simpa [Addr.add] using h0
      | 1, hv => simp at hv; subst hv; simpa [Addr.add] using h1
      | 2, hv => simp at hv; subst hv; simpa [Addr.add] using h2
      | 3, hv => simp at hv; subst hv; simpa [Addr.add] using h3
      | (j + 4), hv => simp at hv)
    simpa using this
  simp [loadVar, Tryz.isAgg25, Tryz.sizeOf25, hl, Result.andThen]
theorem results_p2 {fn : Func} {p q : Tmp} (h : fn.results = #[.cell p 27, .tmp q]) (tmps : Array Value) (w : World) (b : Nat) (x0 x1 x2 x3 x4 : Value) (ht : tmps.getD p undef = .pointer (some ⟨b, 0, none⟩)) (h0 : w.cell? ⟨b, 0, none⟩ = some x0) (h1 : w.cell? ⟨b, 1, none⟩ = some x1) (h2 : w.cell? ⟨b, 2, none⟩ = some x2) (h3 : w.cell? ⟨b, 3, none⟩ = some x3) (h4 : w.cell? ⟨b, 4, none⟩ = some x4) :
    (results fn tmps).run Tryz.prog w = .ok (.tuple #[.agg #[x0, x1, x2, x3, x4], tmps.getD q undef]) w := by
  have ht' : tmps[p]?.getD undef = .pointer (some ⟨b, 0, none⟩) := by simpa using ht
  simp only [results, h]
  simp [ht', asAddr, loadVar27 b x0 x1 x2 x3 x4 w h0 h1 h2 h3 h4]
theorem results_n1 {fn : Func} {p : Tmp} (h : fn.results = #[.cell p 25]) (tmps : Array Value) (w : World) (b : Nat) (x0 x1 x2 x3 : Value) (ht : tmps.getD p undef = .pointer (some ⟨b, 0, none⟩)) (h0 : w.cell? ⟨b, 0, none⟩ = some x0) (h1 : w.cell? ⟨b, 1, none⟩ = some x1) (h2 : w.cell? ⟨b, 2, none⟩ = some x2) (h3 : w.cell? ⟨b, 3, none⟩ = some x3) :
    (results fn tmps).run Tryz.prog w = .ok (.agg #[x0, x1, x2, x3]) w := by
  have ht' : tmps[p]?.getD undef = .pointer (some ⟨b, 0, none⟩) := by simpa using ht
  simp only [results, h]
  simp [ht', asAddr, loadVar25 b x0 x1 x2 x3 w h0 h1 h2 h3]
theorem results_n2 {fn : Func} {p q : Tmp} (h : fn.results = #[.cell p 25, .tmp q]) (tmps : Array Value) (w : World) (b : Nat) (x0 x1 x2 x3 : Value) (ht : tmps.getD p undef = .pointer (some ⟨b, 0, none⟩)) (h0 : w.cell? ⟨b, 0, none⟩ = some x0) (h1 : w.cell? ⟨b, 1, none⟩ = some x1) (h2 : w.cell? ⟨b, 2, none⟩ = some x2) (h3 : w.cell? ⟨b, 3, none⟩ = some x3) :
    (results fn tmps).run Tryz.prog w = .ok (.tuple #[.agg #[x0, x1, x2, x3], tmps.getD q undef]) w := by
  have ht' : tmps[p]?.getD undef = .pointer (some ⟨b, 0, none⟩) := by simpa using ht
  simp only [results, h]
  simp [ht', asAddr, loadVar25 b x0 x1 x2 x3 w h0 h1 h2 h3]
theorem info27s : (Tryz.prog.info? 27).map (·.size) = some 5 := by kernel_rfl
theorem info25s : (Tryz.prog.info? 25).map (·.size) = some 4 := by kernel_rfl
/-- A page, a node is laid into its box. -/
theorem wp_st27 {ops : Array Oper} {rest : List Oper} {o : Oper} {a : Act} {w : World} {Q : Exit → Act → World → Prop} (hgd : o.guard = none) (x y : Operand) (ho : o.op = .store 27 x y)
    (P : Nat) (hx : a.eval x = .pointer (some ⟨P, 0, none⟩)) (k n b : Int) (p : Option Addr) (m c : Nat) (s : Bs) (hy : a.eval y = .agg #[I k, I n, I b, .slice p m c, S s]) (old : Array Value) (ho5 : old.size = 5)
    (hg : w.heap[P]? = some (.cells old 27 (0, 0)))
    (h : wpList Tryz.prog ops Q rest (a.put o.dst undef) (w.setRow P #[I k, I n, I b, .slice p m c, S s])) : wpList Tryz.prog ops Q (o :: rest) a w :=
  wpList_store_row hgd 27 x y ho P _ hx hy 27 old hg info27s (by rw [ho5]; rfl) (by simp [Value.oneCell']) h
theorem wp_st25 {ops : Array Oper} {rest : List Oper} {o : Oper} {a : Act} {w : World} {Q : Exit → Act → World → Prop} (hgd : o.guard = none) (x y : Operand) (ho : o.op = .store 25 x y)
    (P : Nat) (hx : a.eval x = .pointer (some ⟨P, 0, none⟩)) (lf : Bool) (p1 p2 p3 : Option Addr) (m1 c1 m2 c2 m3 c3 : Nat) (hy : a.eval y = .agg #[.bool lf, .slice p1 m1 c1, .slice p2 m2 c2, .slice p3 m3 c3]) (old : Array Value) (ho5 : old.size = 4)
    (hg : w.heap[P]? = some (.cells old 25 (0, 0)))
    (h : wpList Tryz.prog ops Q rest (a.put o.dst undef) (w.setRow P #[.bool lf, .slice p1 m1 c1, .slice p2 m2 c2, .slice p3 m3 c3])) : wpList Tryz.prog ops Q (o :: rest) a w :=
  wpList_store_row hgd 25 x y ho P _ hx hy 25 old hg info25s (by rw [ho5]; rfl) (by simp [Value.oneCell']) h
theorem box5 {B g : Nat} {a b c d e : Value} {w0 w : World} (h : w0.heap[g]? = some (.cells #[a, b, c, d, e] 27 (0, 0))) (hb : Below B w0 w) (hg : g < B) : w.cell? ⟨g, 0, none⟩ = some a ∧ w.cell? ⟨g, 1, none⟩ = some b ∧ w.cell? ⟨g, 2, none⟩ = some c ∧ w.cell? ⟨g, 3, none⟩ = some d ∧ w.cell? ⟨g, 4, none⟩ = some e := by
  have h2 : w.heap[g]? = some (.cells #[a, b, c, d, e] 27 (0, 0)) := (hb.block g hg).trans h
  have := fun j => cell_of_row w g j _ 27 (0, 0) h2
  refine ⟨?_, ?_, ?_, ?_, ?_⟩ <;> (rw [this]; rfl)
theorem size_alloc (w : World) (o : Obj) : (w.alloc o).heap.size = w.heap.size + 1 := by unfold World.alloc; exact Array.size_push _
theorem any_at {f : Bs → Bool} {l : List Bs} (h : anyB f l = false) (k : Nat) (hk : k < l.length) : f (l.getD k []) = false := by
  cases q : f (l.getD k [])
  · rfl
  · rw [anyb_hit f l k hk q] at h
    cases h
theorem long_at {l : List Bs} (h : anyB lng l = false) (k : Nat) : (l.getD k []).length ≤ 200 := by
  by_cases hk : k < l.length
  · have := any_at h k hk
    unfold lng at this
    rw [decide_eq_false_iff_not] at this
    omega
  · simp [List.getD_eq_getElem?_getD, List.getElem?_eq_none (show l.length ≤ k by omega)]
theorem key_at {l : List Bs} (h : kok l = true) (k : Nat) : (l.getD k []).length ≤ 36 := by
  rw [kok_eq, Bool.and_eq_true, Bool.not_eq_true'] at h
  by_cases hk : k < l.length
  · have := any_at h.1 k hk
    unfold noKey at this
    rw [Bool.or_eq_false_iff, decide_eq_false_iff_not, decide_eq_false_iff_not] at this
    omega
  · simp [List.getD_eq_getElem?_getD, List.getElem?_eq_none (show l.length ≤ k by omega)]
theorem wrl_ok {n : Nd} (h : wrl n = 0) (hl : n.leaf = true) : (∀ j, (n.keys.getD j []).length ≤ 36) ∧ (∀ j, (n.vals.getD j []).length ≤ 200) ∧ n.keys.length ≤ 255 ∧ (n.leaf = true → n.vals.length = n.keys.length) := by
  unfold wrl at h
  cases h1 : hfl n
  · rw [h1] at h; cases h
  cases h2 : kok n.keys
  · rw [h1, h2] at h; cases h
  rw [h1, h2, if_pos rfl, if_pos rfl] at h
  have h3 : ¬ 480 < n.siz := fun q => by rw [if_pos q] at h; cases h
  unfold hfl agl at h1
  simp only [Bool.and_eq_true, decide_eq_true_eq, Bool.not_eq_true'] at h1
  unfold Nd.siz at h3
  rw [hl, if_pos rfl] at h3
  refine ⟨key_at h2, long_at h1.2.2, by omega, fun _ => h1.2.1.1⟩
/-- What Page says of a leaf. -/
def pgk (n : Nd) : Int := if wrl n = 0 then 1 else 0
def pgb (n : Nd) : Bs := if wrl n = 0 then bdy n else []
theorem page_leaf (n : Nd) (ka va ia : Option Addr) (kc vc ic : Nat) (w : World) (h : NA n ka va ia w) (hb : NB n) (hl : n.leaf = true) :
    Calls Tryz.prog 33 #[nda n ka va ia kc vc ic] w fun e w' => e = .returned (.tuple #[.agg #[I (pgk n), I 0, I 0, .slice none 0 0, S (pgb n)], I (wrl n)]) ∧ Below w.heap.size w w' := by
  have hA := (Below.refl w.heap.size w).alloc (Nat.le_refl _) (.cells #[.bool n.leaf, .slice ka n.keys.length kc, .slice va n.vals.length vc, .slice ia n.kids.length ic] 25)
  have hA2 := hA.alloc hA.size (.cells #[I 0, I 0, I 0, .slice none 0 0, S []] 27)
  have hg := heap_alloc_new w (.cells #[.bool n.leaf, .slice ka n.keys.length kc, .slice va n.vals.length vc, .slice ia n.kids.length ic] 25)
  have hz := lt_of_row hg
  generalize hW1 : w.alloc (.cells #[.bool n.leaf, .slice ka n.keys.length kc, .slice va n.vals.length vc, .slice ia n.kids.length ic] 25) = W1 at hA hA2 hg hz
  have hp := heap_alloc_new W1 (.cells #[I 0, I 0, I 0, .slice none 0 0, S []] 27)
  have hg2 := (heap_alloc_old W1 (.cells #[I 0, I 0, I 0, .slice none 0 0, S []] 27) hz).trans hg
  have hs1 : W1.heap.size = w.heap.size + 1 := by rw [← hW1, size_alloc]
  have hz2 := lt_of_row hp
  generalize hW2 : W1.alloc (.cells #[I 0, I 0, I 0, .slice none 0 0, S []] 27) = W2 at hA2 hp hg2 hz2
  have hna := h.below hA2
  have H1 := hide (wrong_leaf n ka va ia kc vc ic W2 hna hb hl)
  have H2 := hide (fun W (b : Below W2.heap.size W2 W) (q : wrl n = 0) => body_any n ka va ia kc vc ic W (hna.below b) (wrl_ok q hl).1 (wrl_ok q hl).2.1 (wrl_ok q hl).2.2.1 (wrl_ok q hl).2.2.2)
  have HA2 := hide hA2
  have HP := hide hp
  have HG := hide hg2
  unfold pgk pgb
  have hle : wrl n ≤ 102 := by unfold wrl; split <;> (try split) <;> (try split) <;> omega
  generalize wrl n = er at *
  generalize bdy n = bd at *
  clear h hA hA2 hb hna hg hp hg2
  unfold nda at *
  rw [hl] at *
  generalize n.keys.length = kl at *
  generalize n.vals.length = vl at *
  generalize n.kids.length = il at *
  clear hl n
  have hz3 : w.heap.size < W2.heap.size := by omega
  obtain ⟨c0, c1, c2, c3⟩ := box4 (unhide HG) (Below.refl _ _) hz3
  go_enter Tryz.func33, Tryz.ntmps33
  go_wp2_with fail
  refine (unhide H1).mono ?_
  rintro e w1 ⟨rfl, b⟩
  clear c0 c1 c2 c3
  have HB := hide b
  obtain ⟨d0, d1, d2, d3⟩ := box4 (unhide HG) b hz3
  have hz4 : w.heap.size < w1.heap.size := Nat.lt_of_lt_of_le hz3 b.size
  have hp1 := (b.block _ hz2).trans (unhide HP)
  have HP1 := hide hp1
  have hz5 := lt_of_row hp1
  clear b hp1
  rw [hs1] at HP1 hz5
  by_cases h0 : er = 0
  · subst h0
    have h2 := hide (unhide H2 w1 (unhide HB) rfl)
    clear H2
    go_wp2_with fail
    refine (unhide h2).mono ?_
    rintro e w2 ⟨rfl, b2⟩
    have hp2 := (b2.block _ hz5).trans (unhide HP1)
    have HP2 := hide hp2
    have HB2 := hide ((unhide HB).trans (b2.mono (unhide HB).size))
    clear b2 hp2
    go_wp2_with (refine wp_st27 rfl (.tmp 2) (.tmp 15) rfl (w.heap.size + 1) (by rfl) 1 0 0 none 0 0 bd (by rfl) _ rfl (unhide HP2) ?_)
    have hr := setRow_heap _ _ _ #[I 1, I 0, I 0, .slice none 0 0, S bd] 27 _ (unhide HP2)
    obtain ⟨e0, e1, e2, e3, e4⟩ := box5 hr (Below.refl _ _) (lt_of_row hr)
    have oF := setRow_only w2 (w.heap.size + 1) #[I 1, I 0, I 0, .slice none 0 0, S bd]
    refine bodyPost_ret (results_p2 (p := 2) (q := 3) rfl _ _ (w.heap.size + 1) _ _ _ _ _ rfl e0 e1 e2 e3 e4) rfl ?_
    refine ⟨rfl, oF.below ((unhide HA2).trans ((unhide HB2).mono (unhide HA2).size)) (Nat.le_trans (unhide HA2).size (unhide HB2).size) (fun i e => by omega)⟩
  · have h0' : ((er : Int) == 0) = false := by simp; omega
    clear H2
    go_wp2_with (refine wp_st27 rfl (.tmp 2) (.tmp 9) rfl (w.heap.size + 1) (by rfl) 0 0 0 none 0 0 [] (by rfl) _ rfl (unhide HP1) ?_)
    have hr := setRow_heap _ _ _ #[I 0, I 0, I 0, .slice none 0 0, S []] 27 _ (unhide HP1)
    obtain ⟨e0, e1, e2, e3, e4⟩ := box5 hr (Below.refl _ _) (lt_of_row hr)
    have oF := setRow_only w1 (w.heap.size + 1) #[I 0, I 0, I 0, .slice none 0 0, S []]
    refine bodyPost_ret (results_p2 (p := 2) (q := 3) rfl _ _ (w.heap.size + 1) _ _ _ _ _ rfl e0 e1 e2 e3 e4) rfl ?_
    refine ⟨rfl, oF.below ((unhide HA2).trans ((unhide HB).mono (unhide HA2).size)) (Nat.le_trans (unhide HA2).size (unhide HB).size) (fun i e => by omega)⟩
end Go.Proofs.YtllialbdofklgaaGreatDoor
