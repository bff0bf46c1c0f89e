import Derived.Test.YtfaahjbkdlkmjaaDoorJda
/- Jot: a list is printed. -/
namespace Go.Proofs.YtfaahjbkdlkmjaaDoor
open Go Go.RowKit Go.Lib
set_option linter.unusedVariables false
set_option linter.unusedSimpArgs false
set_option maxHeartbeats 8000000 in
set_option maxRecDepth 20000 in
theorem list_step (xs : List J) (IH : ∀ x ∈ xs, PvC x) (xa : Option Addr) (xc : Nat) (W0 : World) (B b : Nat) (l : Bs) (w : World) (hE : Env W0) (hxl : xs.length ≤ 9223372036854775807) (hxs : 0 < xs.length → ∃ b o, xa = some ⟨b, o, none⟩ ∧ JsP W0 b o xs) (hm : mayL xs = true) (hw : Below W0.heap.size W0 w) (h0 : W0.heap.size ≤ B) (hB : B ≤ w.heap.size) (hp : Pr B b l w) (hl : l.length ≤ 4000) :
    Calls Tryd.prog 26 #[.pointer (some ⟨b, 0, none⟩), .slice xa xs.length xc] w (PrO B b l (91 :: ptL true xs ++ [93]) w) := by
  have H1 := hide (put_any B b l [91] w hp hB (by decide) hl)
  have HW := hide hw
  have HB := hide hB
  have HXS := hide hxs
  have HE := hide hE
  have HIH := hide IH
  have HM := hide hm
  have hbad : ∀ n : Nat, 4000 < l.length + n → n ≤ (91 :: ptL true xs ++ [93]).length → ¬ l.length + (91 :: ptL true xs ++ [93]).length ≤ 4000 := fun n h1 h2 => by omega
  have hlen : (91 :: ptL true xs ++ [93]).length = (ptL true xs).length + 2 := by simp
  clear hw hB hxs hE IH hm
  go_enter Tryd.func26, Tryd.ntmps26
  go_wp2_with fail
  refine (unhide H1).mono ?_
  rintro e w1 hq
  rcases hq.cases with ⟨hf, rfl, g1, g2, g3⟩ | ⟨hf, rfl, g2⟩
  · have HS := hide (St.of h0 (unhide HW) g1 (by rw [List.length_append]; exact hf) g2 g3 (unhide HB))
    clear g1 g2 g3 hq H1 hf hp
    go_wp2_with fail
    go_loopw [10] (fun i9 wr => ∃ k : Nat, i9 = .int .i64 k ∧ k ≤ xs.length ∧ St W0 B b (l ++ [91] ++ ptL true (xs.take k)) w wr) (fun i9 _ => xs.length - (Go.RowKit.intOf i9).toNat)
    case atStart => exact ⟨0, rfl, by omega, by simpa [ptL] using unhide HS⟩
    case round =>
      clear HS
      obtain ⟨k, rfl, hk, hst⟩ := hrel
      have hle := hst.le
      by_cases hlt : k < xs.length
      · have hlt' : (k : Int) < (xs.length : Int) := by omega
        obtain ⟨b2, q, rfl, hjs⟩ := unhide HXS (by omega)
        obtain ⟨x, hxk⟩ : ∃ x, xs[k]? = some x := ⟨_, List.getElem?_eq_getElem hlt⟩
        obtain ⟨na2, nc2, xa2, xc2, hc, hjp⟩ := JsP.at xs k x hjs hxk
        have c0 : wr.cell? ⟨b2, q + k * 5, none⟩ = some (I x.k) := cell_old hst.b0 (hc 0 _ rfl)
        have c1 : wr.cell? ⟨b2, q + k * 5 + 1, none⟩ = some (I x.n) := cell_old hst.b0 (hc 1 _ rfl)
        have c2 : wr.cell? ⟨b2, q + k * 5 + 2, none⟩ = some (S x.t) := cell_old hst.b0 (hc 2 _ rfl)
        have c3 : wr.cell? ⟨b2, q + k * 5 + 3, none⟩ = some (.slice na2 x.ns.length nc2) := cell_old hst.b0 (hc 3 _ rfl)
        have c4 : wr.cell? ⟨b2, q + k * 5 + 4, none⟩ = some (.slice xa2 x.xs.length xc2) := cell_old hst.b0 (hc 4 _ rfl)
        have hmx : may x = true := (mayL_iff xs).1 (unhide HM) x (List.mem_of_getElem? hxk)
        have htk := ptL_take_succ xs k x hxk
        have htl := ptL_take_le xs (k + 1)
        rw [htk] at htl
        simp only [List.length_append] at htl
        have HIX := hide ((unhide HIH) x (List.mem_of_getElem? hxk) na2 nc2 xa2 xc2 W0 B b)
        have HJP := hide hjp
        have HST := hide hst
        have HTK := hide htk
        clear hjs hc hjp hst htk
        by_cases hk0 : k = 0
        · have hk1 : ¬ ((0 : Int) < (k : Int)) := by omega
          rw [if_pos hk0] at htl HTK
          clear hk0
          have hsta := (unhide HST).alloc (.cells #[I x.k, I x.n, S x.t, .slice na2 x.ns.length nc2, .slice xa2 x.xs.length xc2] 25)
          have HX := hide (unhide HIX _ _ (unhide HE) (unhide HJP) hmx hsta.b0 h0 hsta.bs hsta.pr hsta.le)
          unfold vJ at HX
          have HSA := hide hsta
          clear hsta HST HIX
          go_wp2_with fail
          refine (unhide HX).mono ?_
          rintro e w2 hq
          rcases hq.cases with ⟨hf, rfl, g1, g2, g3⟩ | ⟨hf, rfl, g2⟩
          · have HS2 := hide (St.more h0 (unhide HSA) hf g1 g2 g3)
            clear g1 g2 g3 hq HX HSA c0 c1 c2 c3 c4
            go_wp2_with fail
            go_roundw
            case rel => exact ⟨k + 1, by go_num, by omega, by rw [unhide HTK]; simpa [List.append_assoc] using unhide HS2⟩
            case measure => simp [Go.RowKit.intOf]; omega
          · go_wp2_with fail
            refine ⟨rfl, PrO.bad ?_ ⟨rfl, (unhide HSA).be.trans g2⟩⟩
            simp only [List.length_append, List.length_cons, List.length_nil] at hf htl hlen ⊢
            omega
        · have hk1 : (0 : Int) < (k : Int) := by omega
          rw [if_neg hk0] at htl HTK
          have hsta := (unhide HST).alloc (.cells #[I x.k, I x.n, S x.t, .slice na2 x.ns.length nc2, .slice xa2 x.xs.length xc2] 25)
          have HP := hide (put_any B b _ [44] _ hsta.pr hsta.bs (by decide) hsta.le)
          have HSA := hide hsta
          have hbx : (wr.alloc (.cells #[I x.k, I x.n, S x.t, .slice na2 x.ns.length nc2, .slice xa2 x.xs.length xc2] 25)).heap[wr.heap.size]? = some (.cells #[I x.k, I x.n, S x.t, .slice na2 x.ns.length nc2, .slice xa2 x.xs.length xc2] 25 (0, 0)) := heap_alloc_new wr _
          have hbn : wr.heap.size ≠ b := by have := (unhide HST).pr.lt; omega
          have HBX := hide hbx
          clear hsta HST hbx
          go_wp2_with fail
          refine (unhide HP).mono ?_
          rintro e w2 hq
          rcases hq.cases with ⟨hf, rfl, g1, g2, g3⟩ | ⟨hf, rfl, g2⟩
          · have hbx := box_keep g3 (unhide HBX) (by decide) hbn
            have d0 : w2.cell? ⟨wr.heap.size, 0, none⟩ = some (I x.k) := by rw [Lib.cell_of_heap hbx]; rfl
            have d1 : w2.cell? ⟨wr.heap.size, 1, none⟩ = some (I x.n) := by rw [Lib.cell_of_heap hbx]; rfl
            have d2 : w2.cell? ⟨wr.heap.size, 2, none⟩ = some (S x.t) := by rw [Lib.cell_of_heap hbx]; rfl
            have d3 : w2.cell? ⟨wr.heap.size, 3, none⟩ = some (.slice na2 x.ns.length nc2) := by rw [Lib.cell_of_heap hbx]; rfl
            have d4 : w2.cell? ⟨wr.heap.size, 4, none⟩ = some (.slice xa2 x.xs.length xc2) := by rw [Lib.cell_of_heap hbx]; rfl
            have hs2 := St.more h0 (unhide HSA) hf g1 g2 g3
            have HX := hide (unhide HIX _ _ (unhide HE) (unhide HJP) hmx hs2.b0 h0 hs2.bs hs2.pr hs2.le)
            unfold vJ at HX
            have HSB := hide hs2
            clear g1 g2 g3 hq HP HSA hs2 hbx HBX c0 c1 c2 c3 c4 HIX
            go_wp2_with fail
            refine (unhide HX).mono ?_
            rintro e w3 hq
            rcases hq.cases with ⟨hf3, rfl, g1, g2, g3⟩ | ⟨hf3, rfl, g2⟩
            · have HS3 := hide (St.more h0 (unhide HSB) hf3 g1 g2 g3)
              clear g1 g2 g3 hq HX HSB d0 d1 d2 d3 d4
              go_wp2_with fail
              go_roundw
              case rel => exact ⟨k + 1, by go_num, by omega, by rw [unhide HTK]; simpa [List.append_assoc] using unhide HS3⟩
              case measure => simp [Go.RowKit.intOf]; omega
            · go_wp2_with fail
              refine ⟨rfl, PrO.bad ?_ ⟨rfl, (unhide HSB).be.trans g2⟩⟩
              simp only [List.length_append, List.length_cons, List.length_nil] at hf3 htl hlen ⊢
              omega
          · go_wp2_with fail
            refine ⟨rfl, PrO.bad ?_ ⟨rfl, (unhide HSA).be.trans g2⟩⟩
            simp only [List.length_append, List.length_cons, List.length_nil] at hf htl hlen ⊢
            omega
      · have hke : k = xs.length := by omega
        subst hke
        rw [List.take_length] at hst hle
        have HP := hide (put_any B b _ [93] wr hst.pr hst.bs (by decide) hst.le)
        have HST := hide hst
        clear hst
        go_wp2_with fail
        refine (unhide HP).mono ?_
        rintro e w2 hq
        rcases hq.cases with ⟨hf, rfl, g1, g2, g3⟩ | ⟨hf, rfl, g2⟩
        · go_wp2_with fail
          go_end0
          refine PrO.ok (by simp only [List.length_append, List.length_cons, List.length_nil] at hf hlen ⊢; omega) ⟨rfl, by simpa [List.append_assoc] using g1, (unhide HST).be.trans g2, (unhide HST).ok.trans g3⟩
        · go_wp2_with fail
          refine ⟨rfl, PrO.bad ?_ ⟨rfl, (unhide HST).be.trans g2⟩⟩
          simp only [List.length_append, List.length_cons, List.length_nil] at hf hlen ⊢
          omega
  · go_wp2_with fail
    refine ⟨rfl, PrO.bad ?_ ⟨rfl, g2⟩⟩
    simp only [List.length_append, List.length_cons, List.length_nil] at hf hlen ⊢
    omega
end Go.Proofs.YtfaahjbkdlkmjaaDoor
