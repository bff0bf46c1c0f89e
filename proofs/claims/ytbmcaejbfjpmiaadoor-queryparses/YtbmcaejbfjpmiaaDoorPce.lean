import Derived.Test.YtbmcaejbfjpmiaaDoorCuo
namespace Go.Proofs.YtbmcaejbfjpmiaaDoor
open Go.RowKit Go.Lib
theorem loadVar44 (b : Nat) (x y : Value) (W : World) (h0 : W.cell? ⟨b, 0, none⟩ = some x) (h1 : W.cell? ⟨b, 1, none⟩ = some y) : (loadVar 44 ⟨b, 0, none⟩).run Tryd.prog W = .ok (.agg #[x, y]) W := by
  have hl : (loadCells ⟨b, 0, none⟩ 2).run Tryd.prog W = .ok #[x, y] W := by
    have := run_loadCells_list (P := Tryd.prog) W ⟨b, 0, none⟩ [x, y] (fun j v hv => by
      match j, hv with
      | 0, hv => simp at hv; subst hv; simpa [Addr.add] using h0
      | 1, hv => simp at hv; subst hv; simpa [Addr.add] using h1
      | (j + 2), hv => simp at hv)
    simpa using this
  simp [loadVar, Tryd.isAgg44, Tryd.sizeOf44, hl, Result.andThen]
theorem results_c3 {fn : Func} {p u x : Tmp} (h : fn.results = #[.cell p 44, .tmp u, .tmp x]) (tmps : Array Value) (w : World) (b : Nat) (n v : Value) (ht : tmps.getD p undef = .pointer (some ⟨b, 0, none⟩)) (h0 : w.cell? ⟨b, 0, none⟩ = some n) (h1 : w.cell? ⟨b, 1, none⟩ = some v) :
    (results fn tmps).run Tryd.prog w = .ok (.tuple #[.agg #[n, v], tmps.getD u undef, tmps.getD x undef]) w := by
  have ht' : tmps[p]?.getD undef = .pointer (some ⟨b, 0, none⟩) := by simpa using ht
  simp only [results, h]
  simp [Result.andThen, ht', asAddr, loadVar44 b n v w h0 h1]
def tellp : Rs Fl → Value
  | .ok f => .tuple #[.agg #[S f.1, S f.2], .int .i64 0, .int .i64 0]
  | .error (e, p) => .tuple #[.agg #[S [], S []], .int .i64 (e : Nat), .int .i64 (p : Nat)]
theorem b2_of {W W' : World} {b : Nat} {x y : Value} (h : W.heap[b]? = some (.cells #[x, y] 44 (0, 0))) (k : Below W.heap.size W W') : W'.heap[b]? = some (.cells #[x, y] 44 (0, 0)) := by
  rw [k.block b (Array.getElem?_eq_some_iff.1 h).1]
  exact h
theorem set2 {W : World} {b : Nat} {x0 y0 : Value} (x y : Value) (h : W.heap[b]? = some (.cells #[x0, y0] 44 (0, 0))) : ((W.setCell ⟨b, 0, none⟩ x).setCell ⟨b, 1, none⟩ y).heap[b]? = some (.cells #[x, y] 44 (0, 0)) := by
  have h1 := heap_setCell_same W b 0 #[x0, y0] 44 x h
  have h2 := heap_setCell_same (W.setCell ⟨b, 0, none⟩ x) b 1 _ 44 y h1
  rw [h2]
  rfl
/-- The return of parsePiece. -/
theorem end31 {R : Ending → World → Prop} {a : Act} {W : World} {b : Nat} {x y e p : Value} (hd : a.defers = []) (h2 : a.tmps.getD 2 undef = .pointer (some ⟨b, 0, none⟩)) (h3 : a.tmps.getD 3 undef = e) (h4 : a.tmps.getD 4 undef = p) (hh : W.heap[b]? = some (.cells #[x, y] 44 (0, 0))) (hR : R (.returned (.tuple #[.agg #[x, y], e, p])) W) : bodyPost Tryd.prog Tryd.f31 R .ret a W := by
  refine bodyPost_ret (v := .tuple #[.agg #[x, y], e, p]) ?_ hd hR
  rw [results_c3 (fn := Tryd.f31) (p := 2) (u := 3) (x := 4) rfl a.tmps W b x y h2 (by rw [cell_of_heap hh]; rfl) (by rw [cell_of_heap hh]; rfl), h3, h4]
set_option maxHeartbeats 4000000 in
set_option maxRecDepth 8000 in
theorem piece_any (l : List UInt8) (w : World) (hl : l.length ≤ 1099511627776) :
    Calls Tryd.prog 31 #[S l] w fun e w' => e = .returned (tellp (pc l)) ∧ Below w.heap.size w w' := by
  by_cases hnil : l = []
  · subst hnil
    go_enter Tryd.func31, Tryd.ntmps31
    go_wp2
    have hh0 : (w.alloc (.cells #[S [], S []] 44)).heap[w.heap.size]? = some (.cells #[S [], S []] 44 (0, 0)) := by
      show (w.heap.push _)[w.heap.size]? = _
      simp
    refine end31 rfl rfl rfl rfl hh0 ?_
    exact ⟨rfl, (Below.refl w.heap.size w).alloc (Nat.le_refl _) _⟩
  · have hn2 : (l == []) = false := by simpa using hnil
    have hb0 := (Below.refl w.heap.size w).alloc (Nat.le_refl _) (.cells #[S [], S []] 44)
    have hh0 : (w.alloc (.cells #[S [], S []] 44)).heap[w.heap.size]? = some (.cells #[S [], S []] 44 (0, 0)) := by
      show (w.heap.push _)[w.heap.size]? = _
      simp
    have HC := hide (cut_any l 61 (w.alloc (.cells #[S [], S []] 44)) hl)
    have hhl := hd_le 61 l
    have htl : (tl 61 l).length ≤ l.length := by
      unfold tl
      rw [List.length_drop]
      have := List.Sublist.length_le (List.dropWhile_sublist (l := l) (fun x : UInt8 => !(x == 61)))
      omega
    have HU := hide (fun W => unescape_any (hd 61 l) W (by omega))
    have HV := hide (fun W => unescape_any (tl 61 l) W (by omega))
    obtain ⟨T, hT⟩ : ∃ T, T = pc l := ⟨_, rfl⟩
    rw [← hT]
    unfold pc at hT
    rw [if_neg hnil] at hT
    have HT := hide hT
    have HB0 := hide hb0
    have hsz : (w.alloc (.cells #[S [], S []] 44)).heap.size = w.heap.size + 1 := by simp
    clear hT hnil hb0
    generalize hd 61 l = L1 at *
    generalize tl 61 l = L2 at *
    go_enter Tryd.func31, Tryd.ntmps31
    go_wp2_with fail
    refine (unhide HC).mono ?_
    rintro e W1 ⟨rfl, q, rfl⟩
    have hb1 : Below w.heap.size w ((w.alloc (.cells #[S [], S []] 44)).drewN q) := (unhide HB0).trans ⟨rfl, rfl, rfl, Nat.le_refl _, fun _ _ => rfl⟩
    have hh1 : ((w.alloc (.cells #[S [], S []] 44)).drewN q).heap[w.heap.size]? = some (.cells #[S [], S []] 44 (0, 0)) := hh0
    have HB1 := hide hb1
    have hz1 : w.heap.size < ((w.alloc (.cells #[S [], S []] 44)).drewN q).heap.size := (Array.getElem?_eq_some_iff.1 hh1).1
    clear hb1 hh0 HB0 hsz HC
    generalize (w.alloc (.cells #[S [], S []] 44)).drewN q = W1 at *
    have HU1 := hide (unhide HU W1)
    clear HU
    cases hr : rd L1 with
    | error x =>
      obtain ⟨ec, pl⟩ := x
      have hec := (rd_place _ _ _ hr).2.1
      have hpl := (rd_place _ _ _ hr).1
      rw [hr] at HU1 HT
      simp only [tell3] at HU1
      simp only at HT
      have hec0 : ¬ (ec : Int) = 0 := by omega
      clear hec hr
      go_wp2_with fail
      refine (unhide HU1).mono ?_
      rintro e W2 ⟨rfl, k2⟩
      have hh2 := b2_of hh1 k2
      have HB2 := hide ((unhide HB1).trans (k2.mono (by omega)))
      have c0 : W2.cell? ⟨w.heap.size, 0, none⟩ = some (S []) := by rw [cell_of_heap hh2]; rfl
      have c1 : W2.cell? ⟨w.heap.size, 1, none⟩ = some (S []) := by rw [cell_of_heap hh2]; rfl
      have z0 : W2.frozen? ⟨w.heap.size, 0, none⟩ = false := frozen_of_heap hh2 0
      have z1 : W2.frozen? ⟨w.heap.size, 1, none⟩ = false := frozen_of_heap hh2 1
      clear k2 HU1 hh1
      have HS := hide (set2 (S []) (S []) hh2)
      have HB9 := hide (((unhide HB2).setCell (p := ⟨w.heap.size, 0, none⟩) (Nat.le_refl _) (S [])).setCell (p := ⟨w.heap.size, 1, none⟩) (Nat.le_refl _) (S []))
      go_wp2
      refine end31 rfl rfl rfl rfl (unhide HS) ?_
      exact ⟨by rw [unhide HT]; rfl, unhide HB9⟩
    | ok nm =>
      rw [hr] at HU1 HT
      simp only [tell3] at HU1
      simp only at HT
      clear hr
      go_wp2_with fail
      refine (unhide HU1).mono ?_
      rintro e W2 ⟨rfl, k2⟩
      have hh2 := b2_of hh1 k2
      have HB2 := hide ((unhide HB1).trans (k2.mono (by omega)))
      have hz2 := k2.size
      clear k2 HU1 hh1
      have HV1 := hide (unhide HV W2)
      clear HV
      cases hv : rd L2 with
      | error x =>
        obtain ⟨ec, pl⟩ := x
        have hec := (rd_place _ _ _ hv).2.1
        have hpl := (rd_place _ _ _ hv).1
        rw [hv] at HV1 HT
        simp only [tell3] at HV1
        simp only at HT
        have hec0 : ¬ (ec : Int) = 0 := by omega
        clear hec hv
        go_wp2_with fail
        refine (unhide HV1).mono ?_
        rintro e W3 ⟨rfl, k3⟩
        have hh3 := b2_of hh2 k3
        have HB3 := hide ((unhide HB2).trans (k3.mono (by omega)))
        have c0 : W3.cell? ⟨w.heap.size, 0, none⟩ = some (S []) := by rw [cell_of_heap hh3]; rfl
        have c1 : W3.cell? ⟨w.heap.size, 1, none⟩ = some (S []) := by rw [cell_of_heap hh3]; rfl
        have z0 : W3.frozen? ⟨w.heap.size, 0, none⟩ = false := frozen_of_heap hh3 0
        have z1 : W3.frozen? ⟨w.heap.size, 1, none⟩ = false := frozen_of_heap hh3 1
        clear k3 HV1 hh2
        have HS := hide (set2 (S []) (S []) hh3)
        have HB9 := hide (((unhide HB3).setCell (p := ⟨w.heap.size, 0, none⟩) (Nat.le_refl _) (S [])).setCell (p := ⟨w.heap.size, 1, none⟩) (Nat.le_refl _) (S []))
        go_wp2
        refine end31 rfl rfl rfl rfl (unhide HS) ?_
        exact ⟨by rw [unhide HT]; rfl, unhide HB9⟩
      | ok vl =>
        rw [hv] at HV1 HT
        simp only [tell3] at HV1
        simp only at HT
        clear hv
        go_wp2_with fail
        refine (unhide HV1).mono ?_
        rintro e W3 ⟨rfl, k3⟩
        have hh3 := b2_of hh2 k3
        have HB3 := hide ((unhide HB2).trans (k3.mono (by omega)))
        have c0 : W3.cell? ⟨w.heap.size, 0, none⟩ = some (S []) := by rw [cell_of_heap hh3]; rfl
        have c1 : W3.cell? ⟨w.heap.size, 1, none⟩ = some (S []) := by rw [cell_of_heap hh3]; rfl
        have z0 : W3.frozen? ⟨w.heap.size, 0, none⟩ = false := frozen_of_heap hh3 0
        have z1 : W3.frozen? ⟨w.heap.size, 1, none⟩ = false := frozen_of_heap hh3 1
        clear k3 HV1 hh2
        have HS := hide (set2 (S nm) (S vl) hh3)
        have HB9 := hide (((unhide HB3).setCell (p := ⟨w.heap.size, 0, none⟩) (Nat.le_refl _) (S nm)).setCell (p := ⟨w.heap.size, 1, none⟩) (Nat.le_refl _) (S vl))
        go_wp2
        refine end31 rfl rfl rfl rfl (unhide HS) ?_
        exact ⟨by rw [unhide HT]; rfl, unhide HB9⟩
end Go.Proofs.YtbmcaejbfjpmiaaDoor
