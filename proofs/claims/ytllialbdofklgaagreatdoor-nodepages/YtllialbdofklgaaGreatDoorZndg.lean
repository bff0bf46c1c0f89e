import Derived.Test.YtllialbdofklgaaGreatDoorZndb
import Derived.Test.YtllialbdofklgaaGreatDoorNrd
import Derived.Laws.Tables
namespace Go.Proofs.YtllialbdofklgaaGreatDoor
open Go.RowKit
set_option maxHeartbeats 4000000
set_option maxRecDepth 8000
theorem Wt.text {w0 w : World} {b : Nat} {X : Bs} (h : Wt w0 b X w) (most : Nat) (s : Bs) (hm : most ≤ 255) (hs : s.length ≤ most) (hX : X.length ≤ 1000000000) :
    Calls Tryz.prog 90 #[ptr b, I most, S s] w fun e w' => e = .returned (.tuple #[]) ∧ Wt w0 b (X ++ (be 1 s.length ++ s)) w' := by
  obtain ⟨v, h1, h2, h3, h4⟩ := h
  refine (wtext_any b v X 0 most s w h1 (by omega)).mono ?_
  rintro e w' ⟨rfl, hw⟩
  have e1 : textE most s.length = 0 := by
    unfold textE
    rw [if_pos ⟨by omega, by omega⟩, if_pos (by omega)]
  have e2 : textY most s = be 1 s.length ++ s := by
    unfold textY ahd
    rw [if_pos (by omega)]
  rw [e1, e2, wPut_ok] at hw
  exact ⟨rfl, Wt.to h2 h3 h4 hw⟩
/-- A key, and its value, as they are laid. -/
def ent (lf : Bool) (k v : Bs) : Bs := (be 1 k.length ++ k) ++ (if lf then be 1 v.length ++ v else [])
/-- The first j of them. -/
def bdn (n : Nd) : Nat → Bs
  | 0 => be 1 n.keys.length
  | j + 1 => bdn n j ++ ent n.leaf (n.keys.getD j []) (n.vals.getD j [])
def bdy (n : Nd) : Bs := bdn n n.keys.length
theorem bdn_len (n : Nd) (hk : ∀ j, (n.keys.getD j []).length ≤ 36) (hv : ∀ j, (n.vals.getD j []).length ≤ 200) : ∀ j, (bdn n j).length ≤ 1 + 240 * j
  | 0 => by simp [bdn, be_len]
  | j + 1 => by
    have := bdn_len n hk hv j
    have := hk j
    have := hv j
    unfold bdn ent
    split <;> simp only [List.length_append, be_len, List.length_nil] <;> omega
theorem body_any (n : Nd) (ka va ia : Option Addr) (kc vc ic : Nat) (w : World) (h : NA n ka va ia w) (hk : ∀ j, (n.keys.getD j []).length ≤ 36) (hv : ∀ j, (n.vals.getD j []).length ≤ 200) (hn : n.keys.length ≤ 255) (hvl : n.leaf = true → n.vals.length = n.keys.length) :
    Calls Tryz.prog 60 #[nda n ka va ia kc vc ic] w fun e w' => e = .returned (S (bdy n)) ∧ Below w.heap.size w w' := by
  have hA := (Below.refl w.heap.size w).alloc (Nat.le_refl _) (.cells #[.bool n.leaf, .slice ka n.keys.length kc, .slice va n.vals.length vc, .slice ia n.kids.length ic] 25)
  have hg := heap_alloc_new w (.cells #[.bool n.leaf, .slice ka n.keys.length kc, .slice va n.vals.length vc, .slice ia n.kids.length ic] 25)
  have hz := lt_of_row hg
  have hna := h.below hA
  have HNA := hide hna
  have HA := hide hA
  have HG := hide hg
  have HBL := hide (bdn_len n hk hv)
  have HS := hide (p := ∀ j, bdn n (j + 1) = bdn n j ++ ((be 1 (n.keys.getD j []).length ++ n.keys.getD j []) ++ (if n.leaf = true then be 1 (n.vals.getD j []).length ++ n.vals.getD j [] else []))) (fun j => rfl)
  have h0 : bdn n 0 = be 1 n.keys.length := rfl
  have hend : bdy n = bdn n n.keys.length := rfl
  rw [hend]
  clear h hA hna hg hend
  have hks := hide (unhide HNA).ks
  have hvs := hide (unhide HNA).vs
  clear HNA
  generalize bdn n = D at *
  have hV := hide hvl
  clear hvl
  unfold nda
  generalize n.keys = ks at *
  generalize n.vals = vs at *
  generalize n.kids.length = il at *
  generalize n.leaf = lf at *
  clear n
  have H1 := hide (Wt.new (w.alloc (.cells #[.bool lf, .slice ka ks.length kc, .slice va vs.length vc, .slice ia il ic] 25)))
  generalize hW : w.alloc (.cells #[.bool lf, .slice ka ks.length kc, .slice va vs.length vc, .slice ia il ic] 25) = W1 at *
  go_enter Tryz.func60, Tryz.ntmps60
  go_wp2_with fail
  refine (unhide H1).mono ?_
  rintro e w2 ⟨rfl, h2⟩
  clear hW H1
  obtain ⟨d0, d1, d2, d3⟩ := box4 (unhide HG) h2.below hz
  have hz2 : w.heap.size < w2.heap.size := Nat.lt_of_lt_of_le hz h2.below.size
  have H2 := hide (h2.num 1 ks.length (by omega) (by omega) (by omega) (by omega) (by omega) (by simp))
  clear h2
  generalize hb : W1.heap.size = b at H2 ⊢
  go_wp2_with fail
  refine (unhide H2).mono ?_
  rintro e w3 ⟨rfl, h3⟩
  clear H2 d0 d1 d2 d3 hz2
  obtain ⟨d0, d1, d2, d3⟩ := box4 (unhide HG) h3.below hz
  have hz3 : w.heap.size < w3.heap.size := Nat.lt_of_lt_of_le hz h3.below.size
  rw [List.nil_append, Int.toNat_natCast, ← h0] at h3
  have HW := hide h3
  clear h3
  go_wp2
  go_loopw [17] (fun i wr => ∃ k : Nat, k ≤ ks.length ∧ i = .int .i64 k ∧ Wt W1 b (D k) wr) (fun i _ => ks.length - (Go.RowKit.intOf i).toNat)
  case atStart => exact ⟨0, by omega, rfl, unhide HW⟩
  case round =>
    clear HW d0 d1 d2 d3 hz3
    obtain ⟨k, hk1, rfl, hw⟩ := hrel
    by_cases hlt : k < ks.length
    · have hlt' : (k : Int) < (ks.length : Int) := by omega
      have hDl := unhide HBL k
      obtain ⟨p, o, rfl, hpl, hc0⟩ := ((unhide hks).below hw.below).at hlt
      have hk36 := hk k
      have HS1 := hide (unhide HS k)
      generalize hx : ks.getD k [] = x at *
      have H3 := hide (hw.text 36 x (by omega) (by omega) (by omega))
      clear hw
      go_wp2_with fail
      refine (unhide H3).mono ?_
      rintro e w4 ⟨rfl, h4⟩
      clear hc0 hpl H3
      obtain ⟨d0, d1, d2, d3⟩ := box4 (unhide HG) h4.below hz
      have hz4 : w.heap.size < w4.heap.size := Nat.lt_of_lt_of_le hz h4.below.size
      cases lf
      · have HW := hide h4
        clear h4
        go_wp2
        go_round
        case measure => simp [Go.RowKit.intOf]; omega
        case rel =>
          refine ⟨k + 1, by omega, by simp, ?_⟩
          rw [unhide HS1]
          simpa using unhide HW
      · have hvl := unhide hV rfl
        obtain ⟨p2, o2, e2, hp2, hc2⟩ := ((unhide hvs).below h4.below).at (show k < vs.length by omega)
        subst e2
        have hv200 := hv k
        generalize hy : vs.getD k [] = y at *
        have hkv : (k : Int) < (vs.length : Int) := by omega
        clear hvl
        have H4 := hide (h4.text 200 y (by omega) (by omega) (by simp only [List.length_append, be_len]; omega))
        clear h4
        go_wp2_with fail
        refine (unhide H4).mono ?_
        rintro e w5 ⟨rfl, h5⟩
        have HW := hide h5
        clear h5 H4
        go_wp2
        go_round
        case measure => simp [Go.RowKit.intOf]; omega
        case rel =>
          refine ⟨k + 1, by omega, by simp, ?_⟩
          rw [unhide HS1, if_pos trivial, ← List.append_assoc]
          exact unhide HW
    · have hlt' : ¬ (k : Int) < (ks.length : Int) := by omega
      obtain rfl : k = ks.length := by omega
      have H5 := hide hw.done
      clear hw
      go_wp2_with fail
      refine (unhide H5).mono ?_
      rintro e w6 ⟨rfl, h6⟩
      have HB := hide ((unhide HA).trans (h6.mono (unhide HA).size))
      clear h6
      go_wp2
      go_ret
      exact ⟨rfl, unhide HB⟩
end Go.Proofs.YtllialbdofklgaaGreatDoor
namespace Go.Proofs.YtllialbdofklgaaGreatDoor
open Go.RowKit
set_option maxHeartbeats 4000000
set_option maxRecDepth 8000
theorem loadVar27 (b : Nat) (x0 x1 x2 x3 x4 : Value) (W : World) (h0 : W.cell? ⟨b, 0, none⟩ = some x0) (h1 : W.cell? ⟨b, 1, none⟩ = some x1) (h2 : W.cell? ⟨b, 2, none⟩ = some x2) (h3 : W.cell? ⟨b, 3, none⟩ = some x3) (h4 : W.cell? ⟨b, 4, none⟩ = some x4) : (loadVar 27 ⟨b, 0, none⟩).run Tryz.prog W = .ok (.agg #[x0, x1, x2, x3, x4]) W := by
  have hl : (loadCells ⟨b, 0, none⟩ 5).run Tryz.prog W = .ok #[x0, x1, x2, x3, x4] W := by
    have := run_loadCells_list (P := Tryz.prog) W ⟨b, 0, none⟩ [x0, x1, x2, x3, x4] (fun j v hv => by
      match j, hv with
      | 0, hv => simp at hv; subst hv; simpa [Addr.add] using h0
      | 1, hv => simp at hv; subst hv; simpa [Addr.add] using h1
      | 2, hv => simp at hv; subst hv; simpa [Addr.add] using h2
      | 3, hv => simp at hv; subst hv; simpa [Addr.add] using h3
      | 4, hv => simp at hv; subst hv; simpa [Addr.add] using h4
      | (j + 5), hv => simp at hv)
    simpa using this
  simp [loadVar, Tryz.isAgg27, Tryz.sizeOf27, hl, Result.andThen]
theorem loadVar25 (b : Nat) (x0 x1 x2 x3 : Value) (W : World) (h0 : W.cell? ⟨b, 0, none⟩ = some x0) (h1 : W.cell? ⟨b, 1, none⟩ = some x1) (h2 : W.cell? ⟨b, 2, none⟩ = some x2) (h3 : W.cell? ⟨b, 3, none⟩ = some x3) : (loadVar 25 ⟨b, 0, none⟩).run Tryz.prog W = .ok (.agg #[x0, x1, x2, x3]) W := by
  have hl : (loadCells ⟨b, 0, none⟩ 4).run Tryz.prog W = .ok #[x0, x1, x2, x3] W := by
    have := run_loadCells_list (P := Tryz.prog) W ⟨b, 0, none⟩ [x0, x1, x2, x3] (fun j v hv => by
      match j, hv with
      | 0, hv => simp at hv; subst hv; simpa [Addr.add] using h0
      | 1, hv => simp at hv; subst hv; simpa [Addr.add] using h1
      | 2, hv => simp at hv; subst hv; simpa [Addr.add] using h2
      | 3, hv => simp at hv; subst hv; simpa [Addr.add] using h3
      | (j + 4), hv => simp at hv)
    simpa using this
  simp [loadVar, Tryz.isAgg25, Tryz.sizeOf25, hl, Result.andThen]
theorem results_p2 {fn : Func} {p q : Tmp} (h : fn.results = #[.cell p 27, .tmp q]) (tmps : Array Value) (w : World) (b : Nat) (x0 x1 x2 x3 x4 : Value) (ht : tmps.getD p undef = .pointer (some ⟨b, 0, none⟩)) (h0 : w.cell? ⟨b, 0, none⟩ = some x0) (h1 : w.cell? ⟨b, 1, none⟩ = some x1) (h2 : w.cell? ⟨b, 2, none⟩ = some x2) (h3 : w.cell? ⟨b, 3, none⟩ = some x3) (h4 : w.cell? ⟨b, 4, none⟩ = some x4) :
    (results fn tmps).run Tryz.prog w = .ok (.tuple #[.agg #[x0, x1, x2, x3, x4], tmps.getD q undef]) w := by
  have ht' : tmps[p]?.getD undef = .pointer (some ⟨b, 0, none⟩) := by simpa using ht
  simp only [results, h]
  simp [ht', asAddr, loadVar27 b x0 x1 x2 x3 x4 w h0 h1 h2 h3 h4]
theorem results_n1 {fn : Func} {p : Tmp} (h : fn.results = #[.cell p 25]) (tmps : Array Value) (w : World) (b : Nat) (x0 x1 x2 x3 : Value) (ht : tmps.getD p undef = .pointer (some ⟨b, 0, none⟩)) (h0 : w.cell? ⟨b, 0, none⟩ = some x0) (h1 : w.cell? ⟨b, 1, none⟩ = some x1) (h2 : w.cell? ⟨b, 2, none⟩ = some x2) (h3 : w.cell? ⟨b, 3, none⟩ = some x3) :
    (results fn tmps).run Tryz.prog w = .ok (.agg #[x0, x1, x2, x3]) w := by
  have ht' : tmps[p]?.getD undef = .pointer (some ⟨b, 0, none⟩) := by simpa using ht
  simp only [results, h]
  simp [ht', asAddr, loadVar25 b x0 x1 x2 x3 w h0 h1 h2 h3]
theorem results_n2 {fn : Func} {p q : Tmp} (h : fn.results = #[.cell p 25, .tmp q]) (tmps : Array Value) (w : World) (b : Nat) (x0 x1 x2 x3 : Value) (ht : tmps.getD p undef = .pointer (some ⟨b, 0, none⟩)) (h0 : w.cell? ⟨b, 0, none⟩ = some x0) (h1 : w.cell? ⟨b, 1, none⟩ = some x1) (h2 : w.cell? ⟨b, 2, none⟩ = some x2) (h3 : w.cell? ⟨b, 3, none⟩ = some x3) :
    (results fn tmps).run Tryz.prog w = .ok (.tuple #[.agg #[x0, x1, x2, x3], tmps.getD q undef]) w := by
  have ht' : tmps[p]?.getD undef = .pointer (some ⟨b, 0, none⟩) := by simpa using ht
  simp only [results, h]
  simp [ht', asAddr, loadVar25 b x0 x1 x2 x3 w h0 h1 h2 h3]
theorem info27s : (Tryz.prog.info? 27).map (·.size) = some 5 := by kernel_rfl
theorem info25s : (Tryz.prog.info? 25).map (·.size) = some 4 := by kernel_rfl
/-- A page, a node is laid into its box. -/
theorem wp_st27 {ops : Array Oper} {rest : List Oper} {o : Oper} {a : Act} {w : World} {Q : Exit → Act → World → Prop} (hgd : o.guard = none) (x y : Operand) (ho : o.op = .store 27 x y)
    (P : Nat) (hx : a.eval x = .pointer (some ⟨P, 0, none⟩)) (k n b : Int) (p : Option Addr) (m c : Nat) (s : Bs) (hy : a.eval y = .agg #[I k, I n, I b, .slice p m c, S s]) (old : Array Value) (ho5 : old.size = 5)
    (hg : w.heap[P]? = some (.cells old 27 (0, 0)))
    (h : wpList Tryz.prog ops Q rest (a.put o.dst undef) (w.setRow P #[I k, I n, I b, .slice p m c, S s])) : wpList Tryz.prog ops Q (o :: rest) a w :=
  wpList_store_row hgd 27 x y ho P _ hx hy 27 old hg info27s (by rw [ho5]; rfl) (by simp [Value.oneCell']) h
theorem wp_st25 {ops : Array Oper} {rest : List Oper} {o : Oper} {a : Act} {w : World} {Q : Exit → Act → World → Prop} (hgd : o.guard = none) (x y : Operand) (ho : o.op = .store 25 x y)
    (P : Nat) (hx : a.eval x = .pointer (some ⟨P, 0, none⟩)) (lf : Bool) (p1 p2 p3 : Option Addr) (m1 c1 m2 c2 m3 c3 : Nat) (hy : a.eval y = .agg #[.bool lf, .slice p1 m1 c1, .slice p2 m2 c2, .slice p3 m3 c3]) (old : Array Value) (ho5 : old.size = 4)
    (hg : w.heap[P]? = some (.cells old 25 (0, 0)))
    (h : wpList Tryz.prog ops Q rest (a.put o.dst undef) (w.setRow P #[.bool lf, .slice p1 m1 c1, .slice p2 m2 c2, .slice p3 m3 c3])) : wpList Tryz.prog ops Q (o :: rest) a w :=
  wpList_store_row hgd 25 x y ho P _ hx hy 25 old hg info25s (by rw [ho5]; rfl) (by simp [Value.oneCell']) h
theorem box5 {B g : Nat} {a b c d e : Value} {w0 w : World} (h : w0.heap[g]? = some (.cells #[a, b, c, d, e] 27 (0, 0))) (hb : Below B w0 w) (hg : g < B) : w.cell? ⟨g, 0, none⟩ = some a ∧ w.cell? ⟨g, 1, none⟩ = some b ∧ w.cell? ⟨g, 2, none⟩ = some c ∧ w.cell? ⟨g, 3, none⟩ = some d ∧ w.cell? ⟨g, 4, none⟩ = some e := by
  have h2 : w.heap[g]? = some (.cells #[a, b, c, d, e] 27 (0, 0)) := (hb.block g hg).trans h
  have := fun j => cell_of_row w g j _ 27 (0, 0) h2
  refine ⟨?_, ?_, ?_, ?_, ?_⟩ <;> (rw [this]; rfl)
theorem size_alloc (w : World) (o : Obj) : (w.alloc o).heap.size = w.heap.size + 1 := by unfold World.alloc; exact Array.size_push _
theorem any_at {f : Bs → Bool} {l : List Bs} (h : anyB f l = false) (k : Nat) (hk : k < l.length) : f (l.getD k []) = false := by
  cases q : f (l.getD k [])
  · rfl
  · rw [anyb_hit f l k hk q] at h
    cases h
theorem long_at {l : List Bs} (h : anyB lng l = false) (k : Nat) : (l.getD k []).length ≤ 200 := by
  by_cases hk : k < l.length
  · have := any_at h k hk
    unfold lng at this
    rw [decide_eq_false_iff_not] at this
    omega
  · simp [List.getD_eq_getElem?_getD, List.getElem?_eq_none (show l.length ≤ k by omega)]
theorem key_at {l : List Bs} (h : kok l = true) (k : Nat) : (l.getD k []).length ≤ 36 := by
  rw [kok_eq, Bool.and_eq_true, Bool.not_eq_true'] at h
  by_cases hk : k < l.length
  · have := any_at h.1 k hk
    unfold noKey at this
    rw [Bool.or_eq_false_iff, decide_eq_false_iff_not, decide_eq_false_iff_not] at this
    omega
  · simp [List.getD_eq_getElem?_getD, List.getElem?_eq_none (show l.length ≤ k by omega)]
theorem wrl_ok {n : Nd} (h : wrl n = 0) (hl : n.leaf = true) : (∀ j, (n.keys.getD j []).length ≤ 36) ∧ (∀ j, (n.vals.getD j []).length ≤ 200) ∧ n.keys.length ≤ 255 ∧ (n.leaf = true → n.vals.length = n.keys.length) := by
  unfold wrl at h
  cases h1 : hfl n
  · rw [h1] at h; cases h
  cases h2 : kok n.keys
  · rw [h1, h2] at h; cases h
  rw [h1, h2, if_pos rfl, if_pos rfl] at h
  have h3 : ¬ 480 < n.siz := fun q => by rw [if_pos q] at h; cases h
  unfold hfl agl at h1
  simp only [Bool.and_eq_true, decide_eq_true_eq, Bool.not_eq_true'] at h1
  unfold Nd.siz at h3
  rw [hl, if_pos rfl] at h3
  refine ⟨key_at h2, long_at h1.2.2, by omega, fun _ => h1.2.1.1⟩
/-- What Page says of a leaf. -/
def pgk (n : Nd) : Int := if wrl n = 0 then 1 else 0
def pgb (n : Nd) : Bs := if wrl n = 0 then bdy n else []
theorem page_leaf (n : Nd) (ka va ia : Option Addr) (kc vc ic : Nat) (w : World) (h : NA n ka va ia w) (hb : NB n) (hl : n.leaf = true) :
    Calls Tryz.prog 33 #[nda n ka va ia kc vc ic] w fun e w' => e = .returned (.tuple #[.agg #[I (pgk n), I 0, I 0, .slice none 0 0, S (pgb n)], I (wrl n)]) ∧ Below w.heap.size w w' := by
  have hA := (Below.refl w.heap.size w).alloc (Nat.le_refl _) (.cells #[.bool n.leaf, .slice ka n.keys.length kc, .slice va n.vals.length vc, .slice ia n.kids.length ic] 25)
  have hA2 := hA.alloc hA.size (.cells #[I 0, I 0, I 0, .slice none 0 0, S []] 27)
  have hg := heap_alloc_new w (.cells #[.bool n.leaf, .slice ka n.keys.length kc, .slice va n.vals.length vc, .slice ia n.kids.length ic] 25)
  have hz := lt_of_row hg
  generalize hW1 : w.alloc (.cells #[.bool n.leaf, .slice ka n.keys.length kc, .slice va n.vals.length vc, .slice ia n.kids.length ic] 25) = W1 at hA hA2 hg hz
  have hp := heap_alloc_new W1 (.cells #[I 0, I 0, I 0, .slice none 0 0, S []] 27)
  have hg2 := (heap_alloc_old W1 (.cells #[I 0, I 0, I 0, .slice none 0 0, S []] 27) hz).trans hg
  have hs1 : W1.heap.size = w.heap.size + 1 := by rw [← hW1, size_alloc]
  have hz2 := lt_of_row hp
  generalize hW2 : W1.alloc (.cells #[I 0, I 0, I 0, .slice none 0 0, S []] 27) = W2 at hA2 hp hg2 hz2
  have hna := h.below hA2
  have H1 := hide (wrong_leaf n ka va ia kc vc ic W2 hna hb hl)
  have H2 := hide (fun W (b : Below W2.heap.size W2 W) (q : wrl n = 0) => body_any n ka va ia kc vc ic W (hna.below b) (wrl_ok q hl).1 (wrl_ok q hl).2.1 (wrl_ok q hl).2.2.1 (wrl_ok q hl).2.2.2)
  have HA2 := hide hA2
  have HP := hide hp
  have HG := hide hg2
  unfold pgk pgb
  have hle : wrl n ≤ 102 := by unfold wrl; split <;> (try split) <;> (try split) <;> omega
  generalize wrl n = er at *
  generalize bdy n = bd at *
  clear h hA hA2 hb hna hg hp hg2
  unfold nda at *
  rw [hl] at *
  generalize n.keys.length = kl at *
  generalize n.vals.length = vl at *
  generalize n.kids.length = il at *
  clear hl n
  have hz3 : w.heap.size < W2.heap.size := by omega
  obtain ⟨c0, c1, c2, c3⟩ := box4 (unhide HG) (Below.refl _ _) hz3
  go_enter Tryz.func33, Tryz.ntmps33
  go_wp2_with fail
  refine (unhide H1).mono ?_
  rintro e w1 ⟨rfl, b⟩
  clear c0 c1 c2 c3
  have HB := hide b
  obtain ⟨d0, d1, d2, d3⟩ := box4 (unhide HG) b hz3
  have hz4 : w.heap.size < w1.heap.size := Nat.lt_of_lt_of_le hz3 b.size
  have hp1 := (b.block _ hz2).trans (unhide HP)
  have HP1 := hide hp1
  have hz5 := lt_of_row hp1
  clear b hp1
  rw [hs1] at HP1 hz5
  by_cases h0 : er = 0
  · subst h0
    have h2 := hide (unhide H2 w1 (unhide HB) rfl)
    clear H2
    go_wp2_with fail
    refine (unhide h2).mono ?_
    rintro e w2 ⟨rfl, b2⟩
    have hp2 := (b2.block _ hz5).trans (unhide HP1)
    have HP2 := hide hp2
    have HB2 := hide ((unhide HB).trans (b2.mono (unhide HB).size))
    clear b2 hp2
    go_wp2_with (refine wp_st27 rfl (.tmp 2) (.tmp 15) rfl (w.heap.size + 1) (by rfl) 1 0 0 none 0 0 bd (by rfl) _ rfl (unhide HP2) ?_)
    have hr := setRow_heap _ _ _ #[I 1, I 0, I 0, .slice none 0 0, S bd] 27 _ (unhide HP2)
    obtain ⟨e0, e1, e2, e3, e4⟩ := box5 hr (Below.refl _ _) (lt_of_row hr)
    have oF := setRow_only w2 (w.heap.size + 1) #[I 1, I 0, I 0, .slice none 0 0, S bd]
    refine bodyPost_ret (results_p2 (p := 2) (q := 3) rfl _ _ (w.heap.size + 1) _ _ _ _ _ rfl e0 e1 e2 e3 e4) rfl ?_
    refine ⟨rfl, oF.below ((unhide HA2).trans ((unhide HB2).mono (unhide HA2).size)) (Nat.le_trans (unhide HA2).size (unhide HB2).size) (fun i e => by omega)⟩
  · have h0' : ((er : Int) == 0) = false := by simp; omega
    clear H2
    go_wp2_with (refine wp_st27 rfl (.tmp 2) (.tmp 9) rfl (w.heap.size + 1) (by rfl) 0 0 0 none 0 0 [] (by rfl) _ rfl (unhide HP1) ?_)
    have hr := setRow_heap _ _ _ #[I 0, I 0, I 0, .slice none 0 0, S []] 27 _ (unhide HP1)
    obtain ⟨e0, e1, e2, e3, e4⟩ := box5 hr (Below.refl _ _) (lt_of_row hr)
    have oF := setRow_only w1 (w.heap.size + 1) #[I 0, I 0, I 0, .slice none 0 0, S []]
    refine bodyPost_ret (results_p2 (p := 2) (q := 3) rfl _ _ (w.heap.size + 1) _ _ _ _ _ rfl e0 e1 e2 e3 e4) rfl ?_
    refine ⟨rfl, oF.below ((unhide HA2).trans ((unhide HB).mono (unhide HA2).size)) (Nat.le_trans (unhide HA2).size (unhide HB).size) (fun i e => by omega)⟩
end Go.Proofs.YtllialbdofklgaaGreatDoor
namespace Go.Proofs.YtllialbdofklgaaGreatDoor
open Go.RowKit
set_option maxHeartbeats 8000000
set_option maxRecDepth 8000
/-- What a Reader tells of a text, and where it stands then. -/
def tv (most : Nat) (s : Bs × Nat) : Bs := if fine s.2 (rTextE most s.1) then rTextS most s.1 else []
def ts (most : Nat) (s : Bs × Nat) : Bs × Nat := rGo s.1 s.2 (rTextE most s.1) (rTextK most s.1)
theorem ts_len (most : Nat) (s : Bs × Nat) : (ts most s).1.length ≤ s.1.length := rGo_len _ _ _ _
theorem Rd.num' {w0 w : World} {b g : Nat} {s : Bs × Nat} (h : Rd w0 b g s w) (size : Nat) (hs : s.1.length ≤ 4294967296) :
    Calls Tryz.prog 93 #[ptr b, I size] w fun e w' => e = .returned (I (rv size s)) ∧ Rd w0 b g (rs size s) w' ∧ Only (fun k => k = b) w w' := by
  obtain ⟨⟨off, cap, h1⟩, h2, h3, h4⟩ := h
  refine (rnum_any b g off cap s.1 s.2 size w h1 (by omega)).mono ?_
  rintro e w' ⟨rfl, h5, h6⟩
  rw [Int.toNat_natCast] at h5 ⊢
  exact ⟨rfl, ⟨h5, h6.below h2 h2.size (fun k hk => by rw [hk]; exact h3), h3, h4⟩, h6⟩
theorem Rd.text {w0 w : World} {b g : Nat} {s : Bs × Nat} (h : Rd w0 b g s w) (most : Nat) (hs : s.1.length ≤ 4294967296) :
    Calls Tryz.prog 94 #[ptr b, I most] w fun e w' => e = .returned (S (tv most s)) ∧ Rd w0 b g (ts most s) w' ∧ Only (fun k => k = b) w w' := by
  obtain ⟨⟨off, cap, h1⟩, h2, h3, h4⟩ := h
  refine (rtext_any b g off cap s.1 s.2 most w h1 (by omega)).mono ?_
  rintro e w' ⟨rfl, h5, h6⟩
  exact ⟨rfl, ⟨h5, h6.below h2 h2.size (fun k hk => by rw [hk]; exact h3), h3, h4⟩, h6⟩
/-- While a node is read: its box T, its rows, the Reader b, g. -/
structure Ge (w0 : World) (T b g : Nat) (lf : Bool) (K V : List Bs) (L : List Int) (vK vV vI : Value) (s : Bs × Nat) (w : World) : Prop where
  blk : w.heap[T]? = some (.cells #[.bool lf, vK, vV, vI] 25 (0, 0))
  rK : w.ownsRow 0 9 1 vK K.length (K.map S)
  rV : w.ownsRow 0 9 1 vV V.length (V.map S)
  rI : w.ownsRow 0 3 1 vI L.length (L.map fun z => I z)
  rd : Rd w0 b g s w
  hT : w0.heap.size ≤ T
  hK : ∀ i, vK.ownBlock = some i → w0.heap.size ≤ i ∧ i ≠ g
  hV : ∀ i, vV.ownBlock = some i → w0.heap.size ≤ i ∧ i ≠ g
  hI : ∀ i, vI.ownBlock = some i → w0.heap.size ≤ i ∧ i ≠ g
  gT : g ≠ T
  ne : ∀ i, vK.ownBlock = some i → vV.ownBlock ≠ some i
variable {w0 : World} {T b g : Nat} {lf : Bool} {K V : List Bs} {L : List Int} {vK vV vI : Value} {s s' : Bs × Nat} {w w' : World}
theorem Ge.bT (h : Ge w0 T b g lf K V L vK vV vI s w) : b ≠ T := by
  obtain ⟨⟨off, cap, q1⟩, q2, q3, q4⟩ := h.rd
  intro e
  have := q1.row
  rw [e, h.blk] at this
  cases this
theorem Ge.nr (h : Ge w0 T b g lf K V L vK vV vI s w) {e n m : Nat} {v : Value} {xs : List Value} (hr : w.ownsRow 0 e n v m xs) (h1 : e ≠ 25) (h2 : e ≠ 134) : ∀ i, v.ownBlock = some i → i ≠ T ∧ i ≠ b := by
  intro i hi
  obtain ⟨cs, q⟩ := owns_lt hr i hi
  obtain ⟨⟨off, cap, q1⟩, q2, q3, q4⟩ := h.rd
  constructor
  · rintro rfl
    have := h.blk
    rw [q] at this
    injection this with this
    injection this with _ e2
    exact h1 e2
  · rintro rfl
    have := q1.row
    rw [q] at this
    injection this with this
    injection this with _ e2
    exact h2 e2
theorem Ge.read (h : Ge w0 T b g lf K V L vK vV vI s w) (h2 : Rd w0 b g s' w') (o : Only (fun k => k = b) w w') : Ge w0 T b g lf K V L vK vV vI s' w' :=
  ⟨(o.block T (lt_of_row h.blk) (fun e => h.bT e.symm)).trans h.blk, owns_only h.rK o (fun i hi => (h.nr h.rK (by decide) (by decide) i hi).2), owns_only h.rV o (fun i hi => (h.nr h.rV (by decide) (by decide) i hi).2), owns_only h.rI o (fun i hi => (h.nr h.rI (by decide) (by decide) i hi).2), h2, h.hT, h.hK, h.hV, h.hI, h.gT, h.ne⟩
theorem Ge.below (h : Ge w0 T b g lf K V L vK vV vI s w) (q : Below w.heap.size w w') : Ge w0 T b g lf K V L vK vV vI s w' :=
  ⟨(q.block T (lt_of_row h.blk)).trans h.blk, owns_below h.rK q, owns_below h.rV q, owns_below h.rI q, h.rd.keep (P := fun _ => False) (Only.of_below q) (fun e => e) (fun e => e) (fun _ e => e.elim), h.hT, h.hK, h.hV, h.hI, h.gT, h.ne⟩
theorem Ge.cells (h : Ge w0 T b g lf K V L vK vV vI s w) : w.cell? ⟨T, 0, none⟩ = some (.bool lf) ∧ w.cell? ⟨T, 1, none⟩ = some vK ∧ w.cell? ⟨T, 2, none⟩ = some vV ∧ w.cell? ⟨T, 3, none⟩ = some vI :=
  box4 h.blk (Below.refl _ _) (lt_of_row h.blk)
theorem Ge.pushK {v' : Value} {w1 : World} (h : Ge w0 T b g lf K V L vK vV vI s w) (z : Bs) (hr : w1.ownsRow 0 9 1 v' (K.length + 1) (K.map S ++ [S z])) (o : Only (fun i => vK.ownBlock = some i) w w1) (hn : ∀ i, v'.ownBlock = some i → vK.ownBlock = some i ∨ w.heap.size ≤ i) : Ge w0 T b g lf (K ++ [z]) V L v' vV vI s (w1.setCell ⟨T, 1, none⟩ v') := by
  have hrd := h.rd
  obtain ⟨⟨off, cap, q1⟩, q2, q3, q4⟩ := h.rd
  have hgl : g < w.heap.size := q1.bys.lt
  have nK := h.nr h.rK (by decide) (by decide)
  have nV := h.nr h.rV (by decide) (by decide)
  have nI := h.nr h.rI (by decide) (by decide)
  have hT1 := (o.block T (lt_of_row h.blk) (fun e => (nK T e).1 rfl)).trans h.blk
  have rd1 : Rd w0 b g s w1 := hrd.keep o (fun e => (nK b e).2 rfl) (fun e => (h.hK g e).2 rfl) (fun i e => (h.hK i e).1)
  have o2 := Only.setCell w1 ⟨T, 1, none⟩ v'
  have nV1 : w1.ownsRow 0 9 1 vV V.length (V.map S) := owns_only h.rV o (fun i hi e => h.ne i e hi)
  have nI1 : w1.ownsRow 0 3 1 vI L.length (L.map fun z => I z) := owns_only h.rI o (fun i hi e => by
    obtain ⟨c1, e1⟩ := owns_lt h.rK i e
    obtain ⟨c2, e2⟩ := owns_lt h.rI i hi
    rw [e1] at e2
    cases e2)
  refine ⟨?_, ?_, owns_only nV1 o2 (fun i hi e => (nV i hi).1 e), owns_only nI1 o2 (fun i hi e => (nI i hi).1 e), rd1.keep o2 (fun e => h.bT e) (fun e => h.gT e) (fun i e => by rw [e]; exact h.hT), h.hT, fun i hi => ?_, h.hV, h.hI, h.gT, fun i hi e => ?_⟩
  · rw [heap_setCell_same w1 T 1 _ 25 v' hT1]; rfl
  · rw [List.length_append, List.map_append]
    refine owns_only hr o2 (fun i hi e => ?_)
    obtain ⟨cs, q⟩ := owns_lt hr i hi
    rw [show i = T from e, hT1] at q
    cases q
  · rcases hn i hi with e | e
    · exact h.hK i e
    · have := q2.size; constructor <;> omega
  · rcases hn i hi with e2 | e2
    · exact h.ne i e2 e
    · have := owns_blk h.rV i e; omega
theorem Ge.pushV {v' : Value} {w1 : World} (h : Ge w0 T b g lf K V L vK vV vI s w) (z : Bs) (hr : w1.ownsRow 0 9 1 v' (V.length + 1) (V.map S ++ [S z])) (o : Only (fun i => vV.ownBlock = some i) w w1) (hn : ∀ i, v'.ownBlock = some i → vV.ownBlock = some i ∨ w.heap.size ≤ i) : Ge w0 T b g lf K (V ++ [z]) L vK v' vI s (w1.setCell ⟨T, 2, none⟩ v') := by
  have hrd := h.rd
  obtain ⟨⟨off, cap, q1⟩, q2, q3, q4⟩ := h.rd
  have hgl : g < w.heap.size := q1.bys.lt
  have nK := h.nr h.rK (by decide) (by decide)
  have nV := h.nr h.rV (by decide) (by decide)
  have nI := h.nr h.rI (by decide) (by decide)
  have hT1 := (o.block T (lt_of_row h.blk) (fun e => (nV T e).1 rfl)).trans h.blk
  have rd1 : Rd w0 b g s w1 := hrd.keep o (fun e => (nV b e).2 rfl) (fun e => (h.hV g e).2 rfl) (fun i e => (h.hV i e).1)
  have o2 := Only.setCell w1 ⟨T, 2, none⟩ v'
  have nK1 : w1.ownsRow 0 9 1 vK K.length (K.map S) := owns_only h.rK o (fun i hi e => h.ne i hi e)
  have nI1 : w1.ownsRow 0 3 1 vI L.length (L.map fun z => I z) := owns_only h.rI o (fun i hi e => by
    obtain ⟨c1, e1⟩ := owns_lt h.rV i e
    obtain ⟨c2, e2⟩ := owns_lt h.rI i hi
    rw [e1] at e2
    cases e2)
  refine ⟨?_, owns_only nK1 o2 (fun i hi e => (nK i hi).1 e), ?_, owns_only nI1 o2 (fun i hi e => (nI i hi).1 e), rd1.keep o2 (fun e => h.bT e) (fun e => h.gT e) (fun i e => by rw [e]; exact h.hT), h.hT, h.hK, fun i hi => ?_, h.hI, h.gT, fun i hi e => ?_⟩
  · rw [heap_setCell_same w1 T 2 _ 25 v' hT1]; rfl
  · rw [List.length_append, List.map_append]
    refine owns_only hr o2 (fun i hi e => ?_)
    obtain ⟨cs, q⟩ := owns_lt hr i hi
    rw [show i = T from e, hT1] at q
    cases q
  · rcases hn i hi with e | e
    · exact h.hV i e
    · have := q2.size; constructor <;> omega
  · rcases hn i e with e2 | e2
    · exact h.ne i hi e2
    · have := owns_blk h.rK i hi; omega
/-- One more text behind a row of one's own, within a region that draws its order. -/
theorem step_pushS {ops : Array Oper} {o : Oper} {a : Act} {K : Act → World → Prop} {Q : Exit → Act → World → Prop} {R : Prop} (hgd : o.guard = none) (s x : Operand)
    (ho : o.op = .call { callee := .builtin .append, args := #[s, x], argTypes := #[22, 22] })
    (v : Value) (n : Nat) (xs : List Value) (hs : a.eval s = v) (w0 : World) (z : Bs) (hown : w0.ownsRow 0 9 1 v n xs)
    (hx : a.eval x = .slice (some ⟨w0.heap.size, 0, none⟩) 1 1) (hlen : n + 1 ≤ 1000000000000)
    (h : ∀ p cap w', w'.ownsRow 0 9 1 (.slice p (n + 1) cap) (n + 1) (xs ++ [S z]) → Only (fun k => v.ownBlock = some k) w0 w' → (∀ k, (Value.slice p (n + 1) cap).ownBlock = some k → v.ownBlock = some k ∨ w0.heap.size ≤ k) → K (a.put o.dst (.slice p (n + 1) cap)) w') :
    if Region.wanted o (yielded ops a.tmps) = true then Oper.wp Tryz.prog o a (w0.alloc (.cells #[S z] 9)) K Q else R := by
  have hw : Region.wanted o (yielded ops a.tmps) = true := by simp [Region.wanted, hgd]
  rw [if_pos hw]
  obtain ⟨p, cap, w', hr, h2, h3, h4⟩ := app_own 22 9 o.type _ 1 16 Tryz.underlying22 info9 rfl (by decide) v n xs w0 hown [S z] rfl (by intro u hu; simp at hu; subst hu; rfl) (by omega) (by omega)
  unfold Oper.wp execOp
  simp only [ho, resolve, invoke, builtin, Sem.run_bind, Sem.run_pure, Result.andThen_ok, List.map_toArray, List.map_cons, List.map_nil, hs, hx]
  rw [show (w0.alloc (.cells #[S z] 9)) = w0.alloc (.cells [S z].toArray 9) from rfl, hr]
  exact h p cap w' h2 h3 h4
end Go.Proofs.YtllialbdofklgaaGreatDoor
namespace Go.Proofs.YtllialbdofklgaaGreatDoor
open Go.RowKit
set_option maxHeartbeats 16000000
set_option maxRecDepth 8000
theorem rv_lo (size : Nat) (s : Bs × Nat) : 0 ≤ rv size s := by
  unfold rv
  split <;> omega
theorem rv_hi1 (s : Bs × Nat) : rv 1 s < 256 := by
  unfold rv
  split
  · have := nat_lt (s.1.take 1)
    have h2 : 256 ^ (s.1.take 1).length ≤ 256 ^ 1 := Nat.pow_le_pow_right (by omega) (by rw [List.length_take]; omega)
    omega
  · omega
theorem set4 {w : World} {Z : Nat} {old : Array Value} (h : w.heap[Z]? = some (.cells old 25 (0, 0))) (ho : old.size = 4) (a b c d : Value) : ((((w.setCell ⟨Z, 0, none⟩ a).setCell ⟨Z, 1, none⟩ b).setCell ⟨Z, 2, none⟩ c).setCell ⟨Z, 3, none⟩ d).heap[Z]? = some (.cells #[a, b, c, d] 25 (0, 0)) := by
  rw [heap_setCell_same _ Z 3 _ 25 d (heap_setCell_same _ Z 2 _ 25 c (heap_setCell_same _ Z 1 _ 25 b (heap_setCell_same _ Z 0 _ 25 a h)))]
  match old, ho with
  | ⟨[x0, x1, x2, x3]⟩, _ => rfl
theorem set4_only (w : World) (Z : Nat) (a b c d : Value) : Only (fun k => k = Z) w ((((w.setCell ⟨Z, 0, none⟩ a).setCell ⟨Z, 1, none⟩ b).setCell ⟨Z, 2, none⟩ c).setCell ⟨Z, 3, none⟩ d) :=
  ((((Only.setCell w ⟨Z, 0, none⟩ a).put ⟨Z, 1, none⟩ b (.inl rfl)).put ⟨Z, 2, none⟩ c (.inl rfl)).put ⟨Z, 3, none⟩ d (.inl rfl))
/-- A node and a word come out. -/
theorem outN {fn : Func} {p q : Tmp} {W : World} {a : Act} {Z : Nat} {v0 v1 v2 v3 v : Value} {Post : Ending → World → Prop} (hf : fn.results = #[.cell p 25, .tmp q]) (hd : a.defers = []) (ht : a.tmps.getD p undef = .pointer (some ⟨Z, 0, none⟩)) (hv : a.tmps.getD q undef = v) (h : W.heap[Z]? = some (.cells #[v0, v1, v2, v3] 25 (0, 0))) (hp : Post (.returned (.tuple #[.agg #[v0, v1, v2, v3], v])) W) : bodyPost Tryz.prog fn Post .ret a W := by
  obtain ⟨e0, e1, e2, e3⟩ := box4 h (Below.refl _ _) (lt_of_row h)
  subst hv
  exact bodyPost_ret (results_n2 hf _ _ Z _ _ _ _ ht e0 e1 e2 e3) hd hp
theorem ret_nb {v : Value} (n : Nat) : Ending.returned (.tuple #[v, .bool ((n : Int) == 0)]) = .returned (.tuple #[v, .bool (decide (n = 0))]) := by
  rw [show ((n : Int) == 0) = decide (n = 0) by rw [Bool.eq_iff_iff]; simp]
theorem Rd.rebase {w00 w0 w : World} {b g : Nat} {s : Bs × Nat} (h : Rd w0 b g s w) (hb : Below w00.heap.size w00 w0) : Rd w00 b g s w :=
  ⟨h.1, hb.trans (h.2.1.mono hb.size), Nat.le_trans hb.size h.2.2.1, Nat.le_trans hb.size h.2.2.2⟩
/-- What is read of a leaf's body: keys, values, and where the Reader stands. -/
def gF : Nat → Bs × Nat → List Bs × List Bs × (Bs × Nat)
  | 0, s => ([], [], s)
  | n + 1, s => ((gF n s).1 ++ [tv 36 (gF n s).2.2], (gF n s).2.1 ++ [tv 200 (ts 36 (gF n s).2.2)], ts 200 (ts 36 (gF n s).2.2))
theorem gF_short (n : Nat) (s : Bs × Nat) : (gF n s).2.2.1.length ≤ s.1.length := by
  induction n with
  | zero => exact Nat.le_refl _
  | succ n ih => exact Nat.le_trans (ts_len _ _) (Nat.le_trans (ts_len _ _) ih)
theorem gF_len (n : Nat) (s : Bs × Nat) : (gF n s).1.length = n ∧ (gF n s).2.1.length = n := by
  induction n with
  | zero => exact ⟨rfl, rfl⟩
  | succ n ih => simp [gF, ih]
def gN (x : Bs) : Nat := (rv 1 (x, 0)).toNat
def gK (x : Bs) : List Bs := (gF (gN x) (rs 1 (x, 0))).1
def gV (x : Bs) : List Bs := (gF (gN x) (rs 1 (x, 0))).2.1
def gE (x : Bs) : Nat := rDone (gF (gN x) (rs 1 (x, 0))).2.2.1 (gF (gN x) (rs 1 (x, 0))).2.2.2
theorem guess_leaf (nu bi : Int) (la : Option Addr) (ln lc : Nat) (x : Bs) (w : World) (hx : x.length ≤ 4294967296)
    (HD : ∀ b g off cap W, Below w.heap.size w W → RAt b g off cap (gF (gN x) (rs 1 (x, 0))).2.2.1 (gF (gN x) (rs 1 (x, 0))).2.2.2 W → Calls Tryz.prog 95 #[ptr b] W fun e w' => e = .returned (I (gE x)) ∧ Below W.heap.size W w') :
    Calls Tryz.prog 63 #[.agg #[I 1, I nu, I bi, .slice la ln lc, S x]] w fun e w' => ∃ vK vV, e = .returned (.tuple #[.agg #[.bool true, vK, vV, .slice none 0 0], .bool (decide (gE x = 0))]) ∧ w'.ownsRow 0 9 1 vK (gK x).length ((gK x).map S) ∧ w'.ownsRow 0 9 1 vV (gV x).length ((gV x).map S) ∧ (∀ i, vK.ownBlock = some i → w.heap.size ≤ i) ∧ (∀ i, vV.ownBlock = some i → w.heap.size ≤ i) ∧ (∀ i, vK.ownBlock = some i → vV.ownBlock ≠ some i) ∧ Below w.heap.size w w' := by
  have hn0 := rv_lo 1 (x, 0)
  have hn1 := rv_hi1 (x, 0)
  have hgn : rv 1 (x, 0) = ((gN x : Nat) : Int) := by unfold gN; omega
  have hn2 : gN x ≤ 255 := by omega
  have hlr : (rs 1 (x, 0)).1.length ≤ 4294967296 := Nat.le_trans (rGo_len _ _ _ _) hx
  have LF := hide (fun k => Nat.le_trans (gF_short k (rs 1 (x, 0))) hlr)
  have HK : Hid (gK x = (gF (gN x) (rs 1 (x, 0))).1) := rfl
  have HV : Hid (gV x = (gF (gN x) (rs 1 (x, 0))).2.1) := rfl
  have HDD := hide HD
  clear HD
  generalize gK x = gk at *
  generalize gV x = gv at *
  generalize gE x = ge at *
  have hA := (Below.refl w.heap.size w).alloc (Nat.le_refl _) (.cells #[I 1, I nu, I bi, .slice la ln lc, S x] 27)
  have hg := heap_alloc_new w (.cells #[I 1, I nu, I bi, .slice la ln lc, S x] 27)
  have hz := lt_of_row hg
  have hs1 := size_alloc w (.cells #[I 1, I nu, I bi, .slice la ln lc, S x] 27)
  generalize hW1 : w.alloc (.cells #[I 1, I nu, I bi, .slice la ln lc, S x] 27) = W1 at hA hg hz hs1
  have hA2 := hA.alloc hA.size (.cells #[.bool false, .slice none 0 0, .slice none 0 0, .slice none 0 0] 25)
  have hp := heap_alloc_new W1 (.cells #[.bool false, .slice none 0 0, .slice none 0 0, .slice none 0 0] 25)
  have hg2 := (heap_alloc_old W1 (.cells #[.bool false, .slice none 0 0, .slice none 0 0, .slice none 0 0] 25) hz).trans hg
  have hs2 := size_alloc W1 (.cells #[.bool false, .slice none 0 0, .slice none 0 0, .slice none 0 0] 25)
  generalize hW2 : W1.alloc (.cells #[.bool false, .slice none 0 0, .slice none 0 0, .slice none 0 0] 25) = W2 at hA2 hp hg2 hs2
  have hq := heap_alloc_new W2 (.cells #[.bool false, .slice none 0 0, .slice none 0 0, .slice none 0 0] 25)
  have hb3 := (Below.refl W2.heap.size W2).alloc (Nat.le_refl _) (.cells #[.bool false, .slice none 0 0, .slice none 0 0, .slice none 0 0] 25)
  have ht := setRow_heap _ _ _ #[.bool true, .slice none 0 0, .slice none 0 0, .slice none 0 0] 25 _ hq
  have hb4 := (setRow_only (W2.alloc (.cells #[.bool false, .slice none 0 0, .slice none 0 0, .slice none 0 0] 25)) W2.heap.size #[.bool true, .slice none 0 0, .slice none 0 0, .slice none 0 0]).below hb3 hb3.size (fun k e => by omega)
  have HQ := hide hq
  clear hq hb3
  generalize hW3 : (W2.alloc (.cells #[.bool false, .slice none 0 0, .slice none 0 0, .slice none 0 0] 25)).setRow W2.heap.size #[.bool true, .slice none 0 0, .slice none 0 0, .slice none 0 0] = W3 at ht hb4
  obtain ⟨c0, c1, c2, c3, c4⟩ := box5 hg2 (Below.refl _ _) (lt_of_row hg2)
  have hzz : w.heap.size < W2.heap.size := by omega
  obtain ⟨d0, d1, d2, d3, d4⟩ := box5 hg2 hb4 hzz
  obtain ⟨e0, e1, e2, e3⟩ := box4 ht (Below.refl _ _) (lt_of_row ht)
  have hl3 := lt_of_row ht
  have hl3' : w.heap.size < W3.heap.size := by omega
  have HA2 := hide hA2
  have HG2 := hide hg2
  have HP := hide hp
  have HT3 := hide ht
  have HB4 := hide hb4
  have H0 := hide (Rd.new x W3)
  clear hA hg hz hA2 hp hg2 hb4 ht
  have HXS := hide (show W1.heap.size = w.heap.size + 1 ∧ W2.heap.size = W1.heap.size + 1 from ⟨hs1, hs2⟩)
  have HGN := hide hgn
  clear hgn hn0 hn1 hs1 hs2
  have HW3 := hide hW3
  clear hW3
  go_enter Tryz.func63, Tryz.ntmps63
  go_wp2_with (refine wp_st25 rfl (.tmp 4) (.tmp 9) rfl W2.heap.size (by rfl) true none none none 0 0 0 0 0 0 (by rfl) _ rfl (unhide HQ) ?_; rw [unhide HW3])
  refine (unhide H0).mono ?_
  rintro e w1 ⟨b, g, rfl, h1⟩
  clear c0 c1 c2 c3 c4 d0 d1 d2 d3 d4 e0 e1 e2 e3 hW1 hW2 HW3 HQ H0
  have hG : Ge W2 W2.heap.size b g true [] [] [] (.slice none 0 0) (.slice none 0 0) (.slice none 0 0) (x, 0) w1 := by
    have hr := h1.2.1
    obtain ⟨⟨off, cap, r1⟩, r2, r3, r4⟩ := h1
    exact ⟨(hr.block _ hl3).trans (unhide HT3), owns_nil _ _ _, owns_nil _ _ _, owns_nil _ _ _, Rd.rebase ⟨⟨off, cap, r1⟩, r2, r3, r4⟩ (unhide HB4), Nat.le_refl _, (fun i hi => nomatch hi), (fun i hi => nomatch hi), (fun i hi => nomatch hi), by omega, (fun i hi => nomatch hi)⟩
  have H1 := hide (hG.rd.num' 1 hx)
  have HG := hide hG
  clear hG h1 hl3 hl3' HT3 HB4 W3
  have HT : Hid (W2.heap.size ≤ W2.heap.size) := Nat.le_refl _
  go_wp2_with fail
  refine (unhide H1).mono ?_
  rintro e w2 ⟨rfl, h2, o2⟩
  have G2 := hide ((unhide HG).read h2 o2)
  clear h2 o2 HG H1
  rw [unhide HGN]
  clear HGN
  generalize gN x = n at *
  generalize hs0 : rs 1 (x, 0) = s0 at *
  clear hs0
  go_wp2
  go_loopw [22] (fun i wr => ∃ k : Nat, k ≤ n ∧ i = .int .i64 k ∧ ∃ vK vV, Ge W2 W2.heap.size b g true (gF k s0).1 (gF k s0).2.1 [] vK vV (.slice none 0 0) (gF k s0).2.2 wr) (fun i _ => n - (Go.RowKit.intOf i).toNat)
  case atStart => exact ⟨0, by omega, rfl, _, _, unhide G2⟩
  case round =>
    clear G2
    obtain ⟨k, hk, rfl, vK, vV, hG⟩ := hrel
    by_cases hlt : k < n
    · have hlt' : (k : Int) < (n : Int) := by omega
      have HS := hide (show gF (k + 1) s0 = ((gF k s0).1 ++ [tv 36 (gF k s0).2.2], (gF k s0).2.1 ++ [tv 200 (ts 36 (gF k s0).2.2)], ts 200 (ts 36 (gF k s0).2.2)) from rfl)
      have hl := gF_len k s0
      have hls := unhide LF k
      obtain ⟨K, hK⟩ : ∃ K, K = (gF k s0).1 := ⟨_, rfl⟩
      obtain ⟨V, hV⟩ : ∃ V, V = (gF k s0).2.1 := ⟨_, rfl⟩
      obtain ⟨st, hst⟩ : ∃ st, st = (gF k s0).2.2 := ⟨_, rfl⟩
      rw [← hK, ← hV] at hl
      rw [← hst] at hls
      rw [← hK, ← hV, ← hst] at hG HS
      clear hK hV hst
      obtain ⟨hlK, hlV⟩ := hl
      have hls2 := Nat.le_trans (ts_len 36 st) hls
      obtain ⟨pK, cK, rfl⟩ := owns_form hG.rK
      obtain ⟨pV, cV, rfl⟩ := owns_form hG.rV
      have hGd := hG.below (Below.refl _ _).drew
      have HGd := hide hGd
      have HN := hide (hGd.rd.text 36 hls)
      obtain ⟨c0, c1, c2, c3⟩ := hG.cells
      have hTl := lt_of_row hG.blk
      clear hG hGd
      generalize hT : W2.heap.size = T at c0 c1 c2 c3 hTl HGd ⊢
      generalize hz : tv 36 st = z at *
      generalize hs1 : ts 36 st = st1 at *
      generalize hz2 : tv 200 st1 = z2 at *
      have HLK := hide hlK
      have HLV := hide hlV
      rw [hlK] at c1
      rw [hlV] at c2
      rw [hlK, hlV] at HGd
      have hkb : K.length + 1 ≤ 1000000 := by omega
      have hvb : V.length + 1 ≤ 1000000 := by omega
      clear hz hs1 hlK hlV
      go_wp2
      go_region_law (first
        | (refine step_calls (f := 94) Tryz.func94 (by kernel_rfl) rfl rfl _ _ rfl #[ptr b, I 36] (by simp [Act.eval, Act.put]) (S z) (fun w' => Rd W2 b g st1 w' ∧ Only (fun k => k = b) wr.drew w') (unhide HN) ?_; rintro w2 ⟨r2, o2⟩; have G2 := (unhide HGd).read r2 o2; obtain ⟨-, c5, -, -⟩ := G2.cells; have t2 := lt_of_row G2.blk; have HG2 := hide G2; clear G2 r2 o2)
        | (refine step_pushS rfl (.tmp 25) (.tmp 28) rfl (.slice pK k cK) K.length (K.map S) (by rfl) w2 z (unhide HG2).rK (by rfl) (by omega) ?_; intro p3 cap3 w3 r3 o3 n3; have e3 := (o3.block T t2 (fun e => ((unhide HG2).nr (unhide HG2).rK (by decide) (by decide) T e).1 rfl)).trans (unhide HG2).blk; have c6 : w3.cell? ⟨T, 1, none⟩ = some (.slice pK k cK) := cell_of_row w3 _ 1 _ 25 (0, 0) e3; have f6 := frz e3 1; have HG3 := hide ((unhide HG2).pushK z r3 o3 n3); clear r3 o3 n3 e3))
      all_goals (
        have G4 := unhide HG3
        have hTl4 := lt_of_row G4.blk
        obtain ⟨d0, d1, d2, d3⟩ := G4.cells
        have HGe := hide (G4.below (Below.refl _ _).drew)
        have HN2 := hide ((unhide HGe).rd.text 200 hls2)
        clear HG2 HG3 G4 c6 f6 c5 c0 c1 c2 c3 hTl t2
        generalize w3.setCell ⟨T, 1, none⟩ (.slice p3 (K.length + 1) cap3) = w4 at *
        generalize K ++ [z] = K2 at *
        generalize hK3 : Value.slice p3 (K.length + 1) cap3 = vK at *
        clear hK3
        rw [hz2] at HN2
        go_wp2
        go_region_law (first
          | (refine step_calls (f := 94) Tryz.func94 (by kernel_rfl) rfl rfl _ _ rfl #[ptr b, I 200] (by simp [Act.eval, Act.put]) (S z2) (fun w' => Rd W2 b g (ts 200 st1) w' ∧ Only (fun k => k = b) w4.drew w') (unhide HN2) ?_; rintro w5 ⟨r2, o2⟩; have G2 := (unhide HGe).read r2 o2; obtain ⟨-, -, c5, -⟩ := G2.cells; have t2 := lt_of_row G2.blk; have HG2 := hide G2; clear G2 r2 o2)
          | (refine step_pushS rfl (.tmp 34) (.tmp 37) rfl (.slice pV k cV) V.length (V.map S) (by rfl) w5 z2 (unhide HG2).rV (by rfl) (by omega) ?_; intro p6 cap6 w6 r3 o3 n3; have e3 := (o3.block T t2 (fun e => ((unhide HG2).nr (unhide HG2).rV (by decide) (by decide) T e).1 rfl)).trans (unhide HG2).blk; have c6 : w6.cell? ⟨T, 2, none⟩ = some (.slice pV k cV) := cell_of_row w6 _ 2 _ 25 (0, 0) e3; have f6 := frz e3 2; have HG3 := hide ((unhide HG2).pushV z2 r3 o3 n3); clear r3 o3 n3 e3))
        all_goals go_wp2
        all_goals (
          go_roundw
          case rel => exact ⟨k + 1, by omega, by go_num, _, _, by rw [unhide HS]; exact unhide HG3⟩
          case measure => simp [Go.RowKit.intOf]; omega))
    · have hlt' : ¬ (k : Int) < (n : Int) := by omega
      obtain rfl : k = n := by omega
      have hbw : Below w.heap.size w wr.drew := ((unhide HA2).trans (hG.rd.2.1.mono (unhide HA2).size)).drew
      have hGd := hG.below (Below.refl _ _).drew
      obtain ⟨⟨off, cap, hra⟩, -, -, -⟩ := hGd.rd
      have HN := hide (unhide HDD b g off cap wr.drew hbw hra)
      obtain ⟨pK, cK, rfl⟩ := owns_form hG.rK
      obtain ⟨pV, cV, rfl⟩ := owns_form hG.rV
      have hXS := unhide HXS
      have hp := (hGd.rd.2.1.block _ (show W1.heap.size < W2.heap.size by omega)).trans (unhide HP)
      have HPd := hide hp
      have hpl := lt_of_row hp
      have HG := hide hGd
      have HBW := hide hbw
      obtain ⟨c0, c1, c2, c3⟩ := hGd.cells
      have hTl := lt_of_row hGd.blk
      have hlen := gF_len k s0
      rw [hlen.1] at c1
      rw [hlen.2] at c2
      have HLN := hide hlen
      clear hG hbw hGd hra hXS hp hlen
      generalize hT : W2.heap.size = T at c0 c1 c2 c3 hTl HG ⊢
      rw [(unhide HLN).1, (unhide HLN).2] at HG
      go_wp2
      go_region_law (first
        | (refine step_calls (f := 95) Tryz.func95 (by kernel_rfl) rfl rfl _ _ rfl #[ptr b] (by simp [Act.eval, Act.put]) (I ge) (fun w' => Below wr.drew.heap.size wr.drew w') (unhide HN) ?_; intro w2 b2; have G2 := (unhide HG).below b2; obtain ⟨d0, d1, d2, d3⟩ := G2.cells; have t2 := lt_of_row G2.blk; have hp2 := (b2.block _ hpl).trans (unhide HPd); have f2 := frz hp2; have f20 := f2 0; have f21 := f2 1; have f22 := f2 2; have f23 := f2 3; obtain ⟨g0, g1, g2, g3⟩ := box4 hp2 (Below.refl _ _) (lt_of_row hp2); have HP2 := hide hp2; have HG2 := hide G2; have HB2 := hide b2; clear G2 b2 f2 hp2))
      all_goals (
        go_wp2
        have hXS := unhide HXS
        have G2 := unhide HG2
        have bb := (unhide HBW).trans ((unhide HB2).mono (unhide HBW).size)
        have o4 := set4_only w2 W1.heap.size (.bool true) (.slice pK k cK) (.slice pV k cV) (.slice none 0 0)
        have h4 := set4 (unhide HP2) rfl (.bool true) (.slice pK k cK) (.slice pV k cV) (.slice none 0 0)
        have b4 := o4.below bb bb.size (fun i e => by omega)
        refine outN (p := 2) (q := 3) rfl (by rfl) (by rfl) (by rfl) h4 ⟨_, _, ?_, ?_, ?_, fun i hi => ?_, fun i hi => ?_, G2.ne, b4⟩
        · exact ret_nb ge
        · rw [unhide HK]
          exact owns_only G2.rK o4 (fun i hi e => by have := (G2.hK i hi).1; omega)
        · rw [unhide HV]
          exact owns_only G2.rV o4 (fun i hi e => by have := (G2.hV i hi).1; omega)
        · have := (G2.hK i hi).1; omega
        · have := (G2.hV i hi).1; omega)
end Go.Proofs.YtllialbdofklgaaGreatDoor
namespace Go.Proofs.YtllialbdofklgaaGreatDoor
open Go.RowKit
set_option maxHeartbeats 16000000
set_option maxRecDepth 8000
theorem isNodes_leaf (nu bi : Int) (la : Option Addr) (lc : Nat) (x : Bs) (w : World) :
    Calls Tryz.prog 62 #[.agg #[I 1, I nu, I bi, .slice la 0 lc, S x]] w fun e w' => e = .returned (.bool true) ∧ Below w.heap.size w w' := by
  have HA := hide ((Below.refl w.heap.size w).alloc (Nat.le_refl _) (.cells #[I 1, I nu, I bi, .slice la 0 lc, S x] 27))
  go_enter Tryz.func62, Tryz.ntmps62
  go_wp2
  go_ret
  exact ⟨rfl, unhide HA⟩
theorem parse_leaf (nu bi : Int) (la : Option Addr) (lc : Nat) (x : Bs) (w : World) (hx : x.length ≤ 4294967296) (hE : gE x = 0) (hw : wrl ⟨true, gK x, gV x, []⟩ = 0)
    (HD : ∀ b g off cap W, Below w.heap.size w W → RAt b g off cap (gF (gN x) (rs 1 (x, 0))).2.2.1 (gF (gN x) (rs 1 (x, 0))).2.2.2 W → Calls Tryz.prog 95 #[ptr b] W fun e w' => e = .returned (I (gE x)) ∧ Below W.heap.size W w') :
    Calls Tryz.prog 34 #[.agg #[I 1, I nu, I bi, .slice la 0 lc, S x]] w fun e w' => ∃ vK vV, e = .returned (.tuple #[.agg #[.bool true, vK, vV, .slice none 0 0], I 0]) ∧ w'.ownsRow 0 9 1 vK (gK x).length ((gK x).map S) ∧ w'.ownsRow 0 9 1 vV (gV x).length ((gV x).map S) ∧ (∀ i, vK.ownBlock = some i → w.heap.size ≤ i) ∧ (∀ i, vV.ownBlock = some i → w.heap.size ≤ i) ∧ (∀ i, vK.ownBlock = some i → vV.ownBlock ≠ some i) ∧ Below w.heap.size w w' := by
  have hNB : NB ⟨true, gK x, gV x, []⟩ := by
    have h := hw
    unfold wrl at h
    cases h1 : hfl ⟨true, gK x, gV x, []⟩
    · rw [h1] at h; cases h
    cases h2 : kok (gK x)
    · simp only [h1, h2] at h; cases h
    simp only [h1, h2, if_true] at h
    have h3 : ¬ 480 < Nd.siz ⟨true, gK x, gV x, []⟩ := fun q => by rw [if_pos q] at h; cases h
    unfold Nd.siz at h3
    simp only [if_true] at h3
    refine ⟨?_, ?_, ?_, ?_, ?_⟩ <;> simp only [List.length_nil] <;> omega
  have hA := (Below.refl w.heap.size w).alloc (Nat.le_refl _) (.cells #[I 1, I nu, I bi, .slice la 0 lc, S x] 27)
  have hg := heap_alloc_new w (.cells #[I 1, I nu, I bi, .slice la 0 lc, S x] 27)
  have hz := lt_of_row hg
  have hs1 := size_alloc w (.cells #[I 1, I nu, I bi, .slice la 0 lc, S x] 27)
  generalize hW1 : w.alloc (.cells #[I 1, I nu, I bi, .slice la 0 lc, S x] 27) = W1 at hA hg hz hs1
  have hA2 := hA.alloc hA.size (.cells #[.bool false, .slice none 0 0, .slice none 0 0, .slice none 0 0] 25)
  have hp := heap_alloc_new W1 (.cells #[.bool false, .slice none 0 0, .slice none 0 0, .slice none 0 0] 25)
  have hg2 := (heap_alloc_old W1 (.cells #[.bool false, .slice none 0 0, .slice none 0 0, .slice none 0 0] 25) hz).trans hg
  have hs2 := size_alloc W1 (.cells #[.bool false, .slice none 0 0, .slice none 0 0, .slice none 0 0] 25)
  generalize hW2 : W1.alloc (.cells #[.bool false, .slice none 0 0, .slice none 0 0, .slice none 0 0] 25) = W2 at hA2 hp hg2 hs2
  obtain ⟨c0, c1, c2, c3, c4⟩ := box5 hg2 (Below.refl _ _) (lt_of_row hg2)
  have hz2 := lt_of_row hg2
  have hz3 := lt_of_row hp
  have HA2 := hide hA2
  have HG2 := hide hg2
  have HP := hide hp
  have HXS := hide (show W1.heap.size = w.heap.size + 1 ∧ W2.heap.size = W1.heap.size + 1 from ⟨hs1, hs2⟩)
  have H0 := hide (isNodes_leaf nu bi la lc x W2)
  have H1 := hide (fun W (q : Below W2.heap.size W2 W) => guess_leaf nu bi la 0 lc x W hx (fun b g off cap W' b' hr => HD b g off cap W' ((hA2.trans (q.mono hA2.size)).trans (b'.mono (Nat.le_trans hA2.size q.size))) hr))
  rw [hE] at H1
  have HW := hide hw
  have HNB := hide hNB
  clear HD hE hw hNB hA hg hz hA2 hp hg2 hs1 hs2
  generalize gK x = gk at *
  generalize gV x = gv at *
  go_enter Tryz.func34, Tryz.ntmps34
  go_wp2_with fail
  refine (unhide H0).mono ?_
  rintro e w1 ⟨rfl, b1⟩
  clear c0 c1 c2 c3 c4 hW1 hW2
  obtain ⟨c0, c1, c2, c3, c4⟩ := box5 (unhide HG2) b1 hz2
  have hz4 := Nat.lt_of_lt_of_le hz2 b1.size
  have h1 := hide (unhide H1 w1 b1)
  have HB1 := hide b1
  clear b1 H1 H0
  go_wp2_with fail
  refine (unhide h1).mono ?_
  rintro e w2 ⟨vK, vV, rfl, rK, rV, oK, oV, ne, b2⟩
  have bb := (unhide HB1).trans (b2.mono (unhide HB1).size)
  have hp2 := (bb.block _ hz3).trans (unhide HP)
  obtain ⟨pK, cK, rfl⟩ := owns_form rK
  obtain ⟨pV, cV, rfl⟩ := owns_form rV
  have hq := heap_alloc_new w2 (.cells #[.bool false, .slice none 0 0, .slice none 0 0, .slice none 0 0] 25)
  have hb3 := (Below.refl w2.heap.size w2).alloc (Nat.le_refl _) (.cells #[.bool false, .slice none 0 0, .slice none 0 0, .slice none 0 0] 25)
  have ht := setRow_heap _ _ _ #[.bool true, .slice pK gk.length cK, .slice pV gv.length cV, .slice none 0 0] 25 _ hq
  have hb4 := (setRow_only (w2.alloc (.cells #[.bool false, .slice none 0 0, .slice none 0 0, .slice none 0 0] 25)) w2.heap.size #[.bool true, .slice pK gk.length cK, .slice pV gv.length cV, .slice none 0 0]).below hb3 hb3.size (fun k e => by omega)
  have HQ := hide hq
  clear hq hb3
  generalize hW3 : (w2.alloc (.cells #[.bool false, .slice none 0 0, .slice none 0 0, .slice none 0 0] 25)).setRow w2.heap.size #[.bool true, .slice pK gk.length cK, .slice pV gv.length cV, .slice none 0 0] = W3 at ht hb4
  have HW3 := hide hW3
  have rK3 := owns_below rK hb4
  have rV3 := owns_below rV hb4
  have hna : NA ⟨true, gk, gv, []⟩ pK pV none W3 := by
    obtain ⟨p, c, e1, s1, _⟩ := Sts.of rK3
    obtain ⟨p', c', e2, s2, _⟩ := Sts.of rV3
    cases e1
    cases e2
    exact ⟨s1, s2, Ins.nil _ _⟩
  have H2 : Hid (Calls Tryz.prog 59 #[.agg #[.bool true, .slice pK gk.length cK, .slice pV gv.length cV, .slice none 0 0]] W3 fun e w' => e = .returned (I 0) ∧ Below W3.heap.size W3 w') := by
    have q := wrong_leaf ⟨true, gk, gv, []⟩ pK pV none cK cV 0 W3 hna (unhide HNB) rfl
    rw [unhide HW] at q
    exact q
  obtain ⟨d0, d1, d2, d3⟩ := box4 ht (Below.refl _ _) (lt_of_row ht)
  have hl3 := lt_of_row ht
  have bbb := bb.trans (hb4.mono bb.size)
  have hp3 := (bbb.block _ hz3).trans (unhide HP)
  have HT := hide ht
  have HP3 := hide hp3
  have HB3 := hide ((unhide HA2).trans (bbb.mono (unhide HA2).size))
  have HRK := hide rK3
  have HRV := hide rV3
  have hl4 := lt_of_row hp3
  have HX := hide (show W2.heap.size ≤ w2.heap.size from bb.size)
  have HO := hide (show (∀ i, (Value.slice pK gk.length cK).ownBlock = some i → w1.heap.size ≤ i) ∧ (∀ i, (Value.slice pV gv.length cV).ownBlock = some i → w1.heap.size ≤ i) ∧ (∀ i, (Value.slice pK gk.length cK).ownBlock = some i → (Value.slice pV gv.length cV).ownBlock ≠ some i) ∧ W2.heap.size ≤ w1.heap.size from ⟨oK, oV, ne, (unhide HB1).size⟩)
  clear hW3 rK rV rK3 rV3 oK oV ne b2 bb hp2 hna ht hb4 bbb hp3 c0 c1 c2 c3 c4
  generalize hkl : gk.length = kl at *
  generalize hvl : gv.length = vl at *
  have HKL := hide hkl
  have HVL := hide hvl
  clear hkl hvl
  go_wp2_with (first | (refine wp_st25 rfl (.tmp 4) (.tmp 13) rfl w2.heap.size (by rfl) true pK pV none kl cK vl cV 0 0 (by rfl) _ rfl (unhide HQ) ?_; rw [unhide HW3]) | fail)
  refine (unhide H2).mono ?_
  rintro e w4 ⟨rfl, b4⟩
  clear d0 d1 d2 d3 HW3 HQ H2
  obtain ⟨d0, d1, d2, d3⟩ := box4 (unhide HT) b4 hl3
  have hp4 := (b4.block _ hl4).trans (unhide HP3)
  have hl5 := Nat.lt_of_lt_of_le hl3 b4.size
  have HP4 := hide hp4
  have HB4 := hide b4
  clear b4 hp4
  go_wp2_with (first | (refine wp_st25 rfl (.tmp 2) (.tmp 23) rfl W1.heap.size (by rfl) true pK pV none kl cK vl cV 0 0 (by rfl) _ rfl (unhide HP4) ?_) | fail)
  have h4 := setRow_heap _ _ _ #[.bool true, .slice pK kl cK, .slice pV vl cV, .slice none 0 0] 25 _ (unhide HP4)
  have oF := setRow_only w4 W1.heap.size #[.bool true, .slice pK kl cK, .slice pV vl cV, .slice none 0 0]
  have hXS := unhide HXS
  obtain ⟨oK, oV, ne, oS⟩ := unhide HO
  have hbb := (unhide HB3).trans ((unhide HB4).mono (unhide HB3).size)
  refine outN (p := 2) (q := 3) rfl (by rfl) (by rfl) (by rfl) h4 ⟨_, _, rfl, ?_, ?_, fun i hi => ?_, fun i hi => ?_, ne, oF.below hbb hbb.size (fun i e => by omega)⟩
  · rw [unhide HKL]
    exact owns_only (owns_below (unhide HRK) (unhide HB4)) oF (fun i hi e => by have := oK i hi; omega)
  · rw [unhide HVL]
    exact owns_only (owns_below (unhide HRV) (unhide HB4)) oF (fun i hi e => by have := oV i hi; omega)
  · have := oK i hi; omega
  · have := oV i hi; omega
end Go.Proofs.YtllialbdofklgaaGreatDoor
namespace Go.Proofs.YtllialbdofklgaaGreatDoor
open Go.RowKit
set_option maxHeartbeats 8000000
set_option maxRecDepth 8000
theorem copiedTexts_any (a : Option Addr) (n cap : Nat) (l : List Bs) (w : World) (hp : Sts w a n l) (hn : n ≤ 4294967296) (ht : tot l ≤ 4294967296) :
    Calls Tryz.prog 100 #[.slice a n cap] w fun e w' => ∃ V, e = .returned V ∧ w'.ownsRow 0 9 1 V l.length (l.map S) ∧ (∀ k, V.ownBlock = some k → w.heap.size ≤ k) ∧ Below w.heap.size w w' := by
  have hN := hp.1
  subst hN
  have HP := hide hp
  have HT := hide (fun k => Nat.le_trans (tot_at l k) ht)
  clear hp ht
  go_enter Tryz.func100, Tryz.ntmps100
  go_wp2
  go_loopw [3, 8] (fun v i wr => ∃ k : Nat, k ≤ l.length ∧ i = .int .i64 k ∧ wr.ownsRow 0 9 1 v k ((l.take k).map S) ∧ (∀ j, v.ownBlock = some j → w.heap.size ≤ j) ∧ Below w.heap.size w wr) (fun _ i _ => l.length - (Go.RowKit.intOf i).toNat)
  case atStart => exact ⟨0, by omega, rfl, owns_nil _ _ _, (fun j hj => nomatch hj), Below.refl _ _⟩
  case round =>
    obtain ⟨k, hk, rfl, hr, hv, hb⟩ := hrel
    by_cases hlt : k < l.length
    · obtain ⟨p, o, rfl, hpl, hc0⟩ := ((unhide HP).below hb).at hlt
      have hlt' : (k : Int) < (l.length : Int) := by omega
      have hxl := unhide HT k
      have HN : Hid ((l.take (k + 1)).map S = (l.take k).map S ++ [S (l.getD k [])]) := by
        show (l.take (k + 1)).map S = (l.take k).map S ++ [S (l.getD k [])]
        rw [List.take_succ_eq_append_getElem hlt, List.map_append, List.getD_eq_getElem?_getD, List.getElem?_eq_getElem hlt]
        rfl
      generalize l.getD k [] = x at *
      have H1 := hide (clone_any x wr (by omega))
      obtain ⟨p0, c0, rfl⟩ := owns_form hr
      have HR := hide hr
      have HV := hide hv
      have HB := hide hb
      generalize (l.take k).map S = xs at *
      clear hr hv hb
      go_wp2_with fail
      refine (unhide H1).mono ?_
      rintro e w2 ⟨rfl, b2⟩
      have HR2 := hide (owns_below (unhide HR) b2)
      have HB2 := hide ((unhide HB).trans (b2.mono (unhide HB).size))
      have HS2 := hide (Nat.le_trans (unhide HB).size b2.size)
      clear b2 HR HB hc0
      go_wp2_with (at_builtin; refine push_own 22 9 _ 1 16 Tryz.underlying22 info9 rfl (by decide) rfl (.tmp 12) (.tmp 15) rfl (.slice p0 k c0) k xs (by rfl) w2 (unhide HR2) [S x] rfl (by intro u hu; simp at hu; subst hu; rfl) (by rfl) (by omega) (by omega) ?_; intro p3 c3 w3 r3 o3 n3; have HR3 := hide r3; have HO3 := hide o3; have HN3 := hide n3; clear r3 o3 n3)
      go_round
      case measure => simp [Go.RowKit.intOf]; omega
      case rel =>
        refine ⟨k + 1, by omega, by simp, ?_, ?_, ?_⟩
        · rw [unhide HN]; exact unhide HR3
        · intro j hj
          rcases unhide HN3 j hj with q | q
          · exact unhide HV j q
          · have := unhide HS2; omega
        · exact (unhide HO3).below (unhide HB2) (unhide HS2) (fun j hj => unhide HV j hj)
    · have hlt' : ¬ (k : Int) < (l.length : Int) := by omega
      obtain rfl : k = l.length := by omega
      have HR := hide hr
      have HV := hide hv
      have HB := hide hb
      clear hr hv hb
      go_wp2
      go_ret
      refine ⟨_, rfl, ?_, unhide HV, unhide HB⟩
      have := unhide HR
      rwa [List.take_length] at this
theorem cloneI_nil (w : World) : Calls Tryz.prog 61 #[.slice none 0 0] w fun e w' => e = .returned (.slice none 0 0) ∧ w' = w := by
  have hnil : ∀ W : World, (binOp BinOp.eql 23 (Value.slice none 0 0) (Value.slice none 0 0)).run Tryz.prog W = .ok (.bool true) W := fun W => by
    first | rfl | simp [binOp, go_sem, Tryz.underlying23]
  go_enter Tryz.func61, Tryz.ntmps61
  go_wp2
  go_ret
  exact ⟨rfl, rfl⟩
end Go.Proofs.YtllialbdofklgaaGreatDoor
namespace Go.Proofs.YtllialbdofklgaaGreatDoor
open Go.RowKit
set_option maxHeartbeats 8000000
set_option maxRecDepth 8000
/-- A node, a text, a node, a word come out. -/
theorem results_n4 {fn : Func} {p q r s : Tmp} (h : fn.results = #[.cell p 25, .tmp q, .cell r 25, .tmp s]) (tmps : Array Value) (w : World) (b d : Nat) (x0 x1 x2 x3 y0 y1 y2 y3 : Value) (ht : tmps.getD p undef = .pointer (some ⟨b, 0, none⟩)) (hr : tmps.getD r undef = .pointer (some ⟨d, 0, none⟩)) (h0 : w.cell? ⟨b, 0, none⟩ = some x0) (h1 : w.cell? ⟨b, 1, none⟩ = some x1) (h2 : w.cell? ⟨b, 2, none⟩ = some x2) (h3 : w.cell? ⟨b, 3, none⟩ = some x3) (g0 : w.cell? ⟨d, 0, none⟩ = some y0) (g1 : w.cell? ⟨d, 1, none⟩ = some y1) (g2 : w.cell? ⟨d, 2, none⟩ = some y2) (g3 : w.cell? ⟨d, 3, none⟩ = some y3) :
    (results fn tmps).run Tryz.prog w = .ok (.tuple #[.agg #[x0, x1, x2, x3], tmps.getD q undef, .agg #[y0, y1, y2, y3], tmps.getD s undef]) w := by
  have ht' : tmps[p]?.getD undef = .pointer (some ⟨b, 0, none⟩) := by simpa using ht
  have hr' : tmps[r]?.getD undef = .pointer (some ⟨d, 0, none⟩) := by simpa using hr
  simp only [results, h]
  simp [ht', hr', asAddr, loadVar25 b x0 x1 x2 x3 w h0 h1 h2 h3, loadVar25 d y0 y1 y2 y3 w g0 g1 g2 g3]
theorem wrongSplit_small (n : Nd) (ka va ia : Option Addr) (kc vc ic : Nat) (w : World) (h : NA n ka va ia w) (hb : NB n) (hl : n.leaf = true) (h1 : hfl n = true) (h2 : kok n.keys = true) (h3 : n.siz ≤ 480) :
    Calls Tryz.prog 64 #[nda n ka va ia kc vc ic] w fun e w' => e = .returned (I 103) ∧ Below w.heap.size w w' := by
  have hA := (Below.refl w.heap.size w).alloc (Nat.le_refl _) (.cells #[.bool n.leaf, .slice ka n.keys.length kc, .slice va n.vals.length vc, .slice ia n.kids.length ic] 25)
  have hg := heap_alloc_new w (.cells #[.bool n.leaf, .slice ka n.keys.length kc, .slice va n.vals.length vc, .slice ia n.kids.length ic] 25)
  have hz := lt_of_row hg
  have hna := h.below hA
  have H1 := hide (size_any n ka va ia kc vc ic _ hna hb)
  have H2 := hide (fun W (b : Below (w.alloc (.cells #[.bool n.leaf, .slice ka n.keys.length kc, .slice va n.vals.length vc, .slice ia n.kids.length ic] 25)).heap.size (w.alloc (.cells #[.bool n.leaf, .slice ka n.keys.length kc, .slice va n.vals.length vc, .slice ia n.kids.length ic] 25)) W) => hasForm_leaf n ka va ia kc vc ic W (hna.below b) hb hl)
  have H3 := hide (fun W (b : Below (w.alloc (.cells #[.bool n.leaf, .slice ka n.keys.length kc, .slice va n.vals.length vc, .slice ia n.kids.length ic] 25)).heap.size (w.alloc (.cells #[.bool n.leaf, .slice ka n.keys.length kc, .slice va n.vals.length vc, .slice ia n.kids.length ic] 25)) W) => keysMayBe_any ka _ kc n.keys W (hna.below b).ks hb.k hb.kt)
  rw [h1] at H2
  rw [h2] at H3
  have HA := hide hA
  have HG := hide hg
  generalize n.siz = sz at *
  clear h hA hb hna hg h1 h2
  unfold nda at *
  rw [hl] at *
  generalize n.keys.length = kl at *
  generalize n.vals.length = vl at *
  generalize n.kids.length = il at *
  generalize hW : w.alloc (.cells #[.bool true, .slice ka kl kc, .slice va vl vc, .slice ia il ic] 25) = W0 at *
  clear hl
  obtain ⟨d0, d1, d2, d3⟩ := box4 (unhide HG) (Below.refl _ _) hz
  go_enter Tryz.func64, Tryz.ntmps64
  go_wp2_with fail
  refine (unhide H1).mono ?_
  rintro e w1 ⟨rfl, b1⟩
  clear d0 d1 d2 d3 hW H1
  obtain ⟨d0, d1, d2, d3⟩ := box4 (unhide HG) b1 hz
  have hz1 := Nat.lt_of_lt_of_le hz b1.size
  have x2 := hide (unhide H2 w1 b1)
  have B1 := hide b1
  clear b1 H2
  go_wp2_with fail
  refine (unhide x2).mono ?_
  rintro e w2 ⟨rfl, b2⟩
  clear d0 d1 d2 d3 x2 hz1
  have b2 := (unhide B1).trans (b2.mono (unhide B1).size)
  obtain ⟨d0, d1, d2, d3⟩ := box4 (unhide HG) b2 hz
  have hz1 := Nat.lt_of_lt_of_le hz b2.size
  have x3 := hide (unhide H3 w2 b2)
  have B2 := hide b2
  clear b2 H3
  go_wp2_with fail
  refine (unhide x3).mono ?_
  rintro e w3 ⟨rfl, nq, rfl⟩
  have B3 := hide ((unhide HA).trans ((bel_q (unhide B2) nq).mono (unhide HA).size))
  have h' : decide ((sz : Int) ≤ 480) = true := by rw [decide_eq_true_eq]; omega
  go_wp2
  go_ret
  exact ⟨rfl, unhide B3⟩
theorem split_small (n : Nd) (ka va ia : Option Addr) (kc vc ic : Nat) (w : World) (h : NA n ka va ia w) (hb : NB n) (hl : n.leaf = true) (h1 : hfl n = true) (h2 : kok n.keys = true) (h3 : n.siz ≤ 480) :
    Calls Tryz.prog 37 #[nda n ka va ia kc vc ic] w fun e w' => e = .returned (.tuple #[.agg #[.bool false, .slice none 0 0, .slice none 0 0, .slice none 0 0], S [], .agg #[.bool false, .slice none 0 0, .slice none 0 0, .slice none 0 0], I 103]) ∧ Below w.heap.size w w' := by
  have hA := (Below.refl w.heap.size w).alloc (Nat.le_refl _) (.cells #[.bool n.leaf, .slice ka n.keys.length kc, .slice va n.vals.length vc, .slice ia n.kids.length ic] 25)
  have hg := heap_alloc_new w (.cells #[.bool n.leaf, .slice ka n.keys.length kc, .slice va n.vals.length vc, .slice ia n.kids.length ic] 25)
  have hs0 := size_alloc w (.cells #[.bool n.leaf, .slice ka n.keys.length kc, .slice va n.vals.length vc, .slice ia n.kids.length ic] 25)
  generalize hW0 : w.alloc (.cells #[.bool n.leaf, .slice ka n.keys.length kc, .slice va n.vals.length vc, .slice ia n.kids.length ic] 25) = W0 at hA hg hs0
  have hA1 := hA.alloc hA.size (.cells #[.bool false, .slice none 0 0, .slice none 0 0, .slice none 0 0] 25)
  have hg1 := (heap_alloc_old W0 (.cells #[.bool false, .slice none 0 0, .slice none 0 0, .slice none 0 0] 25) (lt_of_row hg)).trans hg
  have hk1 := heap_alloc_new W0 (.cells #[.bool false, .slice none 0 0, .slice none 0 0, .slice none 0 0] 25)
  have hs1 := size_alloc W0 (.cells #[.bool false, .slice none 0 0, .slice none 0 0, .slice none 0 0] 25)
  generalize hW1 : W0.alloc (.cells #[.bool false, .slice none 0 0, .slice none 0 0, .slice none 0 0] 25) = W1 at hA1 hg1 hk1 hs1
  have hA2 := hA1.alloc hA1.size (.cells #[.bool false, .slice none 0 0, .slice none 0 0, .slice none 0 0] 25)
  have hp := heap_alloc_new W1 (.cells #[.bool false, .slice none 0 0, .slice none 0 0, .slice none 0 0] 25)
  have hg2 := (heap_alloc_old W1 (.cells #[.bool false, .slice none 0 0, .slice none 0 0, .slice none 0 0] 25) (lt_of_row hg1)).trans hg1
  have hk2 := (heap_alloc_old W1 (.cells #[.bool false, .slice none 0 0, .slice none 0 0, .slice none 0 0] 25) (lt_of_row hk1)).trans hk1
  have hs2 := size_alloc W1 (.cells #[.bool false, .slice none 0 0, .slice none 0 0, .slice none 0 0] 25)
  generalize hW2 : W1.alloc (.cells #[.bool false, .slice none 0 0, .slice none 0 0, .slice none 0 0] 25) = W2 at hA2 hp hg2 hk2 hs2
  have HX := hide (show W0.heap.size = w.heap.size + 1 ∧ W1.heap.size = W0.heap.size + 1 ∧ W2.heap.size = W1.heap.size + 1 from ⟨hs0, hs1, hs2⟩)
  have X1 := hide (wrongSplit_small n ka va ia kc vc ic W2 (h.below hA2) hb hl h1 h2 h3)
  have HA2 := hide hA2
  have HP := hide hp
  have HK := hide hk2
  have hz2 : w.heap.size < W2.heap.size := by omega
  have hz3 : W0.heap.size < W2.heap.size := by omega
  have hz4 : W1.heap.size < W2.heap.size := by omega
  obtain ⟨c0, c1, c2, c3⟩ := box4 hg2 (Below.refl _ _) hz2
  clear hA hg hA1 hg1 hk1 hA2 hp hg2 hk2 hs0 hs1 hs2 h hb h1 h2 h3
  unfold nda at *
  rw [hl] at *
  generalize n.keys.length = kl at *
  generalize n.vals.length = vl at *
  generalize n.kids.length = il at *
  clear hl
  go_enter Tryz.func37, Tryz.ntmps37
  go_wp2_with fail
  refine (unhide X1).mono ?_
  rintro e w1 ⟨rfl, b1⟩
  clear c0 c1 c2 c3 hW0 hW1 hW2 X1
  have hk1 := (b1.block _ hz3).trans (unhide HK)
  have hp1 := (b1.block _ hz4).trans (unhide HP)
  have HK1 := hide hk1
  have HP1 := hide hp1
  have B1 := hide b1
  have o1 := setRow_only w1 W0.heap.size #[.bool false, .slice none 0 0, .slice none 0 0, .slice none 0 0]
  have hp2 := (o1.block W1.heap.size (lt_of_row hp1) (by have := unhide HX; omega)).trans hp1
  have hk2 := setRow_heap _ _ _ #[.bool false, .slice none 0 0, .slice none 0 0, .slice none 0 0] 25 _ hk1
  generalize hV1 : w1.setRow W0.heap.size #[.bool false, .slice none 0 0, .slice none 0 0, .slice none 0 0] = V1 at o1 hp2 hk2
  have o2 := setRow_only V1 W1.heap.size #[.bool false, .slice none 0 0, .slice none 0 0, .slice none 0 0]
  have hk3 := (o2.block W0.heap.size (lt_of_row hk2) (by have := unhide HX; omega)).trans hk2
  have hp3 := setRow_heap _ _ _ #[.bool false, .slice none 0 0, .slice none 0 0, .slice none 0 0] 25 _ hp2
  have HV1 := hide hV1
  have HP2 := hide hp2
  have bb := (unhide HA2).trans (b1.mono (unhide HA2).size)
  have HB := hide (show Below w.heap.size w (V1.setRow W1.heap.size #[.bool false, .slice none 0 0, .slice none 0 0, .slice none 0 0]) from
    o2.below (o1.below bb bb.size (fun k e => by have := unhide HX; omega)) (Nat.le_trans bb.size o1.size) (fun k e => by have := unhide HX; omega))
  have HK3 := hide hk3
  have HP3 := hide hp3
  clear hk1 hp1 o1 hp2 hk2 hV1 o2 hk3 hp3 bb b1
  go_wp2_with (first | (refine wp_st25 rfl (.tmp 2) (.tmp 14) rfl W0.heap.size (by rfl) false none none none 0 0 0 0 0 0 (by rfl) _ rfl (unhide HK1) ?_; rw [unhide HV1]) | (refine wp_st25 rfl (.tmp 4) (.tmp 15) rfl W1.heap.size (by rfl) false none none none 0 0 0 0 0 0 (by rfl) _ rfl (unhide HP2) ?_) | fail)
  obtain ⟨e0, e1, e2, e3⟩ := box4 (unhide HK3) (Below.refl _ _) (lt_of_row (unhide HK3))
  obtain ⟨f0, f1, f2, f3⟩ := box4 (unhide HP3) (Below.refl _ _) (lt_of_row (unhide HP3))
  refine bodyPost_ret (results_n4 (p := 2) (q := 3) (r := 4) (s := 5) rfl _ _ W0.heap.size W1.heap.size _ _ _ _ _ _ _ _ rfl rfl e0 e1 e2 e3 f0 f1 f2 f3) rfl ?_
  exact ⟨rfl, unhide HB⟩
end Go.Proofs.YtllialbdofklgaaGreatDoor
namespace Go.Proofs.YtllialbdofklgaaGreatDoor
open Go.RowKit
set_option maxHeartbeats 8000000
set_option maxRecDepth 8000
theorem run_neqs (x y : Bs) (W : World) (h : x ≠ y) : (binOp .neq 9 (S x) (S y)).run Tryz.prog W = .ok (.bool true) W := by
  have e : true = !(x == y) := by rw [beq_eq_false_iff_ne.2 h]; rfl
  rw [e]
  simp [binOp, Op.stringOp]
theorem texts_any (a b : Option Addr) (n m cap cap2 : Nat) (l u : List Bs) (w : World) (hp : Sts w a n l) (hq : Sts w b m u) (hn : n ≤ 4294967296) (hm : m ≤ 4294967296) :
    Calls Tryz.prog 50 #[.slice a n cap, .slice b m cap2] w fun e w' => e = .returned (.bool (decide (l = u))) ∧ ∃ q, w' = w.drewN q := by
  have hN := hp.1
  have hM := hq.1
  subst hN hM
  have HP := hide hp
  have HQ := hide hq
  clear hp hq
  obtain ⟨T, hT⟩ : ∃ T, T = decide (l = u) := ⟨_, rfl⟩
  rw [← hT]
  have HT := hide hT
  clear hT
  go_enter Tryz.func50, Tryz.ntmps50
  by_cases hlen : l.length = u.length
  · have hlen' : ((l.length : Int) == (u.length : Int)) = true := by simp; omega
    have HLN := hide hlen
    rw [← hlen] at hlen' HQ ⊢
    clear hlen hm hlen'
    go_wp2
    go_loopw [5] (fun i wr => ∃ k q : Nat, k ≤ l.length ∧ i = .int .i64 k ∧ l.take k = u.take k ∧ wr = w.drewN q) (fun i _ => l.length - (Go.RowKit.intOf i).toNat)
    case atStart => exact ⟨0, 0, by omega, rfl, rfl, rfl⟩
    case round =>
      obtain ⟨k, q, hk, rfl, ha, rfl⟩ := hrel
      by_cases hlt : k < l.length
      · have hlt' : (k : Int) < (l.length : Int) := by omega
        obtain ⟨p, o, rfl, hpl, hc0⟩ := (unhide HP).at hlt
        obtain ⟨p2, o2, rfl, hpl2, hc1⟩ := (unhide HQ).at hlt
        have HS := hide (show l.getD k [] = u.getD k [] → l.take (k + 1) = u.take (k + 1) from fun h => by
          have h2 : k < u.length := by have := unhide HLN; omega
          rw [List.take_succ_eq_append_getElem hlt, List.take_succ_eq_append_getElem h2, ha]
          rw [List.getD_eq_getElem?_getD, List.getD_eq_getElem?_getD, List.getElem?_eq_getElem hlt, List.getElem?_eq_getElem h2] at h
          have h3 : l[k] = u[k] := h
          rw [h3])
        have HB := hide (show ¬ l.getD k [] = u.getD k [] → T = false from fun h => by
          rw [unhide HT, decide_eq_false_iff_not]
          exact fun e => h (by rw [e]))
        clear ha
        generalize l.getD k [] = x at *
        generalize u.getD k [] = y at *
        by_cases hxy : x = y
        · subst hxy
          have HA := hide (unhide HS rfl)
          clear HS HB
          go_wp2
          go_quiet (fail)
          go_wp2
          go_round
          case measure => simp [Go.RowKit.intOf]; omega
          case rel => exact ⟨k + 1, q + nq, by omega, by simp, unhide HA, by simp⟩
        · have hb : (x == y) = false := by rw [beq_eq_false_iff_ne]; exact hxy
          have HA := hide (unhide HB hxy)
          clear HS HB
          have hq := fun W => run_neqs x y W hxy
          go_wp2
          go_quiet (fail)
          go_wp2
          go_ret
          exact ⟨ret_bool (unhide HA).symm, q + nq, by simp⟩
      · have hlt' : ¬ (k : Int) < (l.length : Int) := by omega
        have HA := hide (show T = true by
          rw [unhide HT, decide_eq_true_eq]
          have h2 := unhide HLN
          rwa [List.take_of_length_le (by omega), List.take_of_length_le (by omega)] at ha)
        clear ha
        go_wp2
        go_ret
        exact ⟨ret_bool (unhide HA).symm, q, rfl⟩
  · have hlen' : ((l.length : Int) == (u.length : Int)) = false := by simp; omega
    have HA := hide (show T = false by
      rw [unhide HT, decide_eq_false_iff_not]
      exact fun e => hlen (by rw [e]))
    go_wp2
    go_ret
    exact ⟨ret_bool (unhide HA).symm, 0, rfl⟩
theorem ints_any (a b : Option Addr) (n m cap cap2 : Nat) (l u : List Int) (w : World) (hp : Ins w a n l) (hq : Ins w b m u) (hn : n ≤ 4294967296) (hm : m ≤ 4294967296) :
    Calls Tryz.prog 49 #[.slice a n cap, .slice b m cap2] w fun e w' => e = .returned (.bool (decide (l = u))) ∧ ∃ q, w' = w.drewN q := by
  have hN := hp.1
  have hM := hq.1
  subst hN hM
  have HP := hide hp
  have HQ := hide hq
  clear hp hq
  obtain ⟨T, hT⟩ : ∃ T, T = decide (l = u) := ⟨_, rfl⟩
  rw [← hT]
  have HT := hide hT
  clear hT
  go_enter Tryz.func49, Tryz.ntmps49
  by_cases hlen : l.length = u.length
  · have hlen' : ((l.length : Int) == (u.length : Int)) = true := by simp; omega
    have HLN := hide hlen
    rw [← hlen] at hlen' HQ ⊢
    clear hlen hm hlen'
    go_wp2
    go_loopw [5] (fun i wr => ∃ k q : Nat, k ≤ l.length ∧ i = .int .i64 k ∧ l.take k = u.take k ∧ wr = w.drewN q) (fun i _ => l.length - (Go.RowKit.intOf i).toNat)
    case atStart => exact ⟨0, 0, by omega, rfl, rfl, rfl⟩
    case round =>
      obtain ⟨k, q, hk, rfl, ha, rfl⟩ := hrel
      by_cases hlt : k < l.length
      · have hlt' : (k : Int) < (l.length : Int) := by omega
        obtain ⟨p, o, rfl, hpl, hc0⟩ := (unhide HP).at hlt
        obtain ⟨p2, o2, rfl, hpl2, hc1⟩ := (unhide HQ).at hlt
        have HS := hide (show l.getD k 0 = u.getD k 0 → l.take (k + 1) = u.take (k + 1) from fun h => by
          have h2 : k < u.length := by have := unhide HLN; omega
          rw [List.take_succ_eq_append_getElem hlt, List.take_succ_eq_append_getElem h2, ha]
          rw [List.getD_eq_getElem?_getD, List.getD_eq_getElem?_getD, List.getElem?_eq_getElem hlt, List.getElem?_eq_getElem h2] at h
          have h3 : l[k] = u[k] := h
          rw [h3])
        have HB := hide (show ¬ l.getD k 0 = u.getD k 0 → T = false from fun h => by
          rw [unhide HT, decide_eq_false_iff_not]
          exact fun e => h (by rw [e]))
        clear ha
        generalize l.getD k 0 = x at *
        generalize u.getD k 0 = y at *
        by_cases hxy : x = y
        · subst hxy
          have HA := hide (unhide HS rfl)
          clear HS HB
          go_wp2
          go_quiet (fail)
          go_wp2
          go_round
          case measure => simp [Go.RowKit.intOf]; omega
          case rel => exact ⟨k + 1, q + nq, by omega, by simp, unhide HA, by simp⟩
        · have hb : (x == y) = false := by rw [beq_eq_false_iff_ne]; exact hxy
          have HA := hide (unhide HB hxy)
          clear HS HB
          go_wp2
          go_quiet (fail)
          go_wp2
          go_ret
          exact ⟨ret_bool (unhide HA).symm, q + nq, by simp⟩
      · have hlt' : ¬ (k : Int) < (l.length : Int) := by omega
        have HA := hide (show T = true by
          rw [unhide HT, decide_eq_true_eq]
          have h2 := unhide HLN
          rwa [List.take_of_length_le (by omega), List.take_of_length_le (by omega)] at ha)
        clear ha
        go_wp2
        go_ret
        exact ⟨ret_bool (unhide HA).symm, q, rfl⟩
  · have hlen' : ((l.length : Int) == (u.length : Int)) = false := by simp; omega
    have HA := hide (show T = false by
      rw [unhide HT, decide_eq_false_iff_not]
      exact fun e => hlen (by rw [e]))
    go_wp2
    go_ret
    exact ⟨ret_bool (unhide HA).symm, 0, rfl⟩
/-- Are two nodes the same? -/
def sam (m n : Nd) : Bool := decide (m.keys = n.keys) && decide (m.vals = n.vals) && decide (m.kids = n.kids) && (m.leaf == n.leaf)
theorem nodes_any (m n : Nd) (ka va ia kb vb ib : Option Addr) (kc vc ic kd vd id : Nat) (w : World) (hm : NA m ka va ia w) (hn : NA n kb vb ib w) (bm : NB m) (bn : NB n) :
    Calls Tryz.prog 35 #[nda m ka va ia kc vc ic, nda n kb vb ib kd vd id] w fun e w' => e = .returned (.bool (sam m n)) ∧ Below w.heap.size w w' := by
  have hA := (Below.refl w.heap.size w).alloc (Nat.le_refl _) (.cells #[.bool m.leaf, .slice ka m.keys.length kc, .slice va m.vals.length vc, .slice ia m.kids.length ic] 25)
  have hg := heap_alloc_new w (.cells #[.bool m.leaf, .slice ka m.keys.length kc, .slice va m.vals.length vc, .slice ia m.kids.length ic] 25)
  have hs0 := size_alloc w (.cells #[.bool m.leaf, .slice ka m.keys.length kc, .slice va m.vals.length vc, .slice ia m.kids.length ic] 25)
  generalize hW0 : w.alloc (.cells #[.bool m.leaf, .slice ka m.keys.length kc, .slice va m.vals.length vc, .slice ia m.kids.length ic] 25) = W0 at hA hg hs0
  have hA1 := hA.alloc hA.size (.cells #[.bool n.leaf, .slice kb n.keys.length kd, .slice vb n.vals.length vd, .slice ib n.kids.length id] 25)
  have hg1 := (heap_alloc_old W0 (.cells #[.bool n.leaf, .slice kb n.keys.length kd, .slice vb n.vals.length vd, .slice ib n.kids.length id] 25) (lt_of_row hg)).trans hg
  have hk1 := heap_alloc_new W0 (.cells #[.bool n.leaf, .slice kb n.keys.length kd, .slice vb n.vals.length vd, .slice ib n.kids.length id] 25)
  have hs1 := size_alloc W0 (.cells #[.bool n.leaf, .slice kb n.keys.length kd, .slice vb n.vals.length vd, .slice ib n.kids.length id] 25)
  generalize hW1 : W0.alloc (.cells #[.bool n.leaf, .slice kb n.keys.length kd, .slice vb n.vals.length vd, .slice ib n.kids.length id] 25) = W1 at hA1 hg1 hk1 hs1
  have M := hm.below hA1
  have N := hn.below hA1
  have X1 := hide (fun q => texts_any ka kb _ _ kc kd m.keys n.keys (W1.drewN q) (M.ks.below (bel_q (Below.refl _ _) q)) (N.ks.below (bel_q (Below.refl _ _) q)) bm.k bn.k)
  have X2 := hide (fun q => texts_any va vb _ _ vc vd m.vals n.vals (W1.drewN q) (M.vs.below (bel_q (Below.refl _ _) q)) (N.vs.below (bel_q (Below.refl _ _) q)) bm.v bn.v)
  have X3 := hide (fun q => ints_any ia ib _ _ ic id m.kids n.kids (W1.drewN q) (M.is.below (bel_q (Below.refl _ _) q)) (N.is.below (bel_q (Below.refl _ _) q)) bm.i bn.i)
  have HA := hide hA1
  have hz1 : w.heap.size < W1.heap.size := by omega
  have hz2 : W0.heap.size < W1.heap.size := by omega
  obtain ⟨c0, c1, c2, c3⟩ := box4 hg1 (Below.refl _ _) hz1
  obtain ⟨d0, d1, d2, d3⟩ := box4 hk1 (Below.refl _ _) hz2
  clear hA hg hs0 hA1 hg1 hk1 hs1 M N hm hn bm bn
  unfold sam nda
  generalize decide (m.keys = n.keys) = r1 at *
  generalize decide (m.vals = n.vals) = r2 at *
  generalize decide (m.kids = n.kids) = r3 at *
  generalize m.leaf = lf at *
  generalize n.leaf = lg at *
  generalize m.keys.length = k1 at *
  generalize m.vals.length = v1 at *
  generalize m.kids.length = i1 at *
  generalize n.keys.length = k2 at *
  generalize n.vals.length = v2 at *
  generalize n.kids.length = i2 at *
  clear m n
  have x1 := hide (unhide X1 0)
  go_enter Tryz.func35, Tryz.ntmps35
  go_wp2_with fail
  refine (unhide x1).mono ?_
  rintro e w1 ⟨rfl, q, rfl⟩
  clear hW0 hW1 x1 X1
  rw [World.drewN_drewN, Nat.zero_add]
  have x2 := hide (unhide X2 q)
  go_wp2_with fail
  refine (unhide x2).mono ?_
  rintro e w1 ⟨rfl, q2, rfl⟩
  rw [World.drewN_drewN]
  have x3 := hide (unhide X3 (q + q2))
  clear x2 X2 X3
  go_wp2_with fail
  refine (unhide x3).mono ?_
  rintro e w1 ⟨rfl, q3, rfl⟩
  rw [World.drewN_drewN]
  have HB := hide (bel_q (unhide HA) (q + q2 + q3))
  clear x3
  cases r1 <;> cases r2 <;> cases r3 <;> (go_wp2; go_ret; exact ⟨ret_bool (by first | rfl | simp), unhide HB⟩)
end Go.Proofs.YtllialbdofklgaaGreatDoor
