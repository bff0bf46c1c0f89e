import Derived.Test.YtfaahjbkdlkmjaaDoorJxk
import Derived.Test.YtfaahjbkdlkmjaaDoorJxa
/- Jot: how many parts are left. -/
namespace Go.Proofs.YtfaahjbkdlkmjaaDoor
open Go Go.RowKit Go.Lib
set_option linter.unusedVariables false
set_option linter.unusedSimpArgs false
def LfC (x : J) : Prop := ∀ (na : Option Addr) (nc : Nat) (xa : Option Addr) (xc : Nat) (m : Int) (w : World), JP w na xa x → 0 ≤ m → m ≤ 10000 →
  Calls Tryd.prog 6 #[vJ x.k x.n x.t na x.ns.length nc xa x.xs.length xc, I m] w fun e w' => e = .returned (I (lft x m)) ∧ Below w.heap.size w w'
theorem lftL_neg : ∀ (l : List J) {m : Int}, m < 0 → lftL l m = m
  | [], m, h => by rw [lftL]
  | x :: l, m, h => by rw [lftL, if_pos h]
theorem lftL_append : ∀ (l r : List J) (m : Int), lftL (l ++ r) m = lftL r (lftL l m)
  | [], r, m => by rw [List.nil_append, lftL]
  | x :: l, r, m => by
    rw [List.cons_append, lftL, lftL]
    split
    · rename_i h
      rw [lftL_neg r h]
    · exact lftL_append l r _
theorem lftL_succ (xs : List J) (k : Nat) (x : J) (m : Int) (h : xs[k]? = some x) (h0 : 0 ≤ lftL (xs.take k) m) : lftL (xs.take (k + 1)) m = lft x (lftL (xs.take k) m) := by
  have hk : k < xs.length := (List.getElem?_eq_some_iff.1 h).1
  have e : xs[k] = x := (List.getElem?_eq_some_iff.1 h).2
  rw [List.take_succ_eq_append_getElem hk, e, lftL_append, lftL, if_neg (by omega), lftL]
theorem lftL_stop (xs : List J) (k : Nat) (m : Int) (h : lftL (xs.take k) m < 0) : lftL xs m = lftL (xs.take k) m := by
  conv => lhs; rw [← List.take_append_drop k xs]
  rw [lftL_append, lftL_neg _ h]
set_option maxHeartbeats 8000000 in
set_option maxRecDepth 20000 in
theorem left_step (k n : Int) (t : Bs) (ns : List Bs) (xs : List J) (IH : ∀ x ∈ xs, LfC x) : LfC (.mk k n t ns xs) := by
  intro na nc xa xc m w hj h0 h1
  rw [JP] at hj
  obtain ⟨ht, hn, hx, hxs⟩ := hj
  show Calls Tryd.prog 6 #[vJ k n t na ns.length nc xa xs.length xc, I m] w _
  obtain ⟨W1, hW1⟩ : ∃ W1, w.alloc (.cells #[I k, I n, S t, .slice na ns.length nc, .slice xa xs.length xc] 25) = W1 := ⟨_, rfl⟩
  have hb1 : Below w.heap.size w W1 := by rw [← hW1]; exact (Below.refl _ _).alloc (Nat.le_refl _) _
  have r1 : W1.heap[w.heap.size]? = some (.cells #[I k, I n, S t, .slice na ns.length nc, .slice xa xs.length xc] 25 (0, 0)) := by rw [← hW1]; exact heap_alloc_new w _
  have a3 : W1.cell? ⟨w.heap.size, 3, none⟩ = some (.slice na ns.length nc) := by rw [cell_at r1]; rfl
  have HB1 := hide hb1
  have R1 := hide r1
  have HIH := hide IH
  have HX := hide hxs
  have hnl := hn.1
  clear hb1 r1 IH hxs hn
  unfold vJ
  go_enter Tryd.func6, Tryd.ntmps6
  go_wp2_with fail
  clear hW1 a3
  have hm1 : m - 1 - (ns.length : Int) ≤ 10000 := by omega
  have HL := hide (show lft (.mk k n t ns xs) m = lftL xs (m - 1 - ns.length) from by rw [lft])
  generalize hM : m - 1 - (ns.length : Int) = M at *
  clear hM
  go_loopw [1, 5] (fun v9 i9 wr => ∃ (i : Nat), i9 = .int .i64 i ∧ v9 = I (lftL (xs.take i) M) ∧ i ≤ xs.length ∧ Below w.heap.size w wr ∧ wr.heap[w.heap.size]? = some (.cells #[I k, I n, S t, .slice na ns.length nc, .slice xa xs.length xc] 25 (0, 0))) (fun _ i9 _ => xs.length - (Go.RowKit.intOf i9).toNat)
  case atStart => exact ⟨0, rfl, by simp [lftL], by omega, unhide HB1, unhide R1⟩
  case round =>
    clear HB1 R1
    obtain ⟨i, rfl, rfl, hi, hb, hr⟩ := hrel
    have a4 : wr.cell? ⟨w.heap.size, 4, none⟩ = some (.slice xa xs.length xc) := by rw [cell_at hr]; rfl
    have hvm := lftL_le (xs.take i) M
    by_cases hlt : i < xs.length
    · have hlt' : (i : Int) < (xs.length : Int) := by omega
      by_cases hv : 0 ≤ lftL (xs.take i) M
      · obtain ⟨x, hxk⟩ : ∃ x, xs[i]? = some x := ⟨_, List.getElem?_eq_getElem hlt⟩
        obtain ⟨b, q, rfl, hjs⟩ := unhide HX (by omega)
        obtain ⟨na2, nc2, xa2, xc2, hc, hjp⟩ := JsP.at xs i x hjs hxk
        have c0 : wr.cell? ⟨b, q + i * 5, none⟩ = some (I x.k) := cell_old hb (hc 0 _ rfl)
        have c1 : wr.cell? ⟨b, q + i * 5 + 1, none⟩ = some (I x.n) := cell_old hb (hc 1 _ rfl)
        have c2 : wr.cell? ⟨b, q + i * 5 + 2, none⟩ = some (S x.t) := cell_old hb (hc 2 _ rfl)
        have c3 : wr.cell? ⟨b, q + i * 5 + 3, none⟩ = some (.slice na2 x.ns.length nc2) := cell_old hb (hc 3 _ rfl)
        have c4 : wr.cell? ⟨b, q + i * 5 + 4, none⟩ = some (.slice xa2 x.xs.length xc2) := cell_old hb (hc 4 _ rfl)
        have HQ := hide ((unhide HIH) x (List.mem_of_getElem? hxk) na2 nc2 xa2 xc2 (lftL (xs.take i) M) wr (JP.keep hb x hjp) hv (by omega))
        rw [← lftL_succ xs i x M hxk hv] at HQ
        have HB := hide hb
        have HR := hide hr
        unfold vJ at HQ
        clear hjs hc hjp hb hr hxk
        generalize hV : lftL (xs.take i) M = V at *
        clear hV
        go_wp2_with fail
        refine (unhide HQ).mono ?_
        rintro e w2 ⟨rfl, h2⟩
        have HB2 := hide ((unhide HB).trans (h2.mono (unhide HB).size))
        have HR2 := hide ((h2.block _ (lt_of_row (unhide HR))).trans (unhide HR))
        clear h2 HQ HB HR a4 c0 c1 c2 c3 c4
        go_wp2_with fail
        go_roundw
        case rel => exact ⟨i + 1, by go_num, rfl, by omega, unhide HB2, unhide HR2⟩
        case measure => simp [Go.RowKit.intOf]; omega
      · have hs := lftL_stop xs i M (by omega)
        rw [hs] at HL
        have HB := hide hb
        clear hb hr hs
        generalize hV : lftL (xs.take i) M = V at *
        clear hV
        go_wp2_with fail
        go_ret
        exact ⟨by rw [unhide HL] <;> rfl, unhide HB⟩
    · have hie : i = xs.length := by omega
      subst hie
      rw [List.take_length]
      have HB := hide hb
      clear hb hr hvm
      generalize hV : lftL xs M = V at *
      clear hV
      go_wp2_with fail
      go_ret
      exact ⟨by rw [unhide HL] <;> rfl, unhide HB⟩
mutual
theorem left_all : ∀ x : J, LfC x
  | .mk k n t ns xs => left_step k n t ns xs (left_allL xs)
theorem left_allL : ∀ (l : List J), ∀ x ∈ l, LfC x
  | [], x, h => absurd h (by simp)
  | y :: l, x, h => by
    rcases List.mem_cons.1 h with h | h
    · rw [h]
      exact left_all y
    · exact left_allL l x h
end
end Go.Proofs.YtfaahjbkdlkmjaaDoor
