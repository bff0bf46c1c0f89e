import Derived.Test.YtfaahjbkdlkmjaaDoorJdb
/- Jot: an object is printed. -/
namespace Go.Proofs.YtfaahjbkdlkmjaaDoor
open Go Go.RowKit Go.Lib
set_option linter.unusedVariables false
set_option linter.unusedSimpArgs false
theorem ptO_append : ∀ (ns ms : List Bs) (xs ys : List J), ns.length = xs.length → ptO false (ns ++ ms) (xs ++ ys) = ptO false ns xs ++ ptO false ms ys
  | [], ms, [], ys, _ => by
    rw [show ptO false [] [] = [] by rw [ptO]; simp]
    rfl
  | a :: ns, ms, x :: xs, ys, h => by
    rw [List.cons_append, List.cons_append, ptO_cons, ptO_cons, ptO_append ns ms xs ys (by simpa using h)]
    simp
theorem ptO_nil (f : Bool) : ptO f [] [] = [] := by rw [ptO]; simp
theorem ptO_take_succ (ns : List Bs) (xs : List J) (k : Nat) (a : Bs) (x : J) (hl : ns.length = xs.length) (ha : ns[k]? = some a) (h : xs[k]? = some x) :
    ptO true (ns.take (k + 1)) (xs.take (k + 1)) = ptO true (ns.take k) (xs.take k) ++ ((if k = 0 then [] else [44]) ++ (quo a ++ ([58] ++ pt x))) := by
  have hk : k < xs.length := (List.getElem?_eq_some_iff.1 h).1
  have e : xs[k] = x := (List.getElem?_eq_some_iff.1 h).2
  have e2 : ns[k]'(by omega) = a := (List.getElem?_eq_some_iff.1 ha).2
  rw [List.take_succ_eq_append_getElem hk, e, List.take_succ_eq_append_getElem (by omega : k < ns.length), e2]
  by_cases h0 : k = 0
  · subst h0
    simp [ptO_cons, ptO_nil]
  · rw [if_neg h0]
    have hlk : (ns.take k).length = (xs.take k).length := by simp; omega
    have hne : ns.take k ≠ [] := by
      intro q
      have := congrArg List.length q
      rw [List.length_take, Nat.min_eq_left (by omega)] at this
      exact h0 (by simpa using this)
    have h1 := ptO_false hne hlk
    have h2 := ptO_false (ns := ns.take k ++ [a]) (l := xs.take k ++ [x]) (by simp) (by simp; omega)
    rw [ptO_append _ _ _ _ hlk, h1, ptO_cons, ptO_nil] at h2
    have := List.cons.inj h2
    rw [← this.2]
    simp
theorem ptO_take_le (ns : List Bs) (xs : List J) (k : Nat) (hl : ns.length = xs.length) : (ptO true (ns.take k) (xs.take k)).length ≤ (ptO true ns xs).length := by
  by_cases h : ns.take k = []
  · have hx : xs.take k = [] := by
      have := congrArg List.length h
      apply List.eq_nil_of_length_eq_zero
      rw [List.length_take] at this ⊢
      rw [← hl]
      exact this
    rw [h, hx, ptO_nil]; simp
  · have hx : ns ≠ [] := by intro q; subst q; simp at h
    have hlk : (ns.take k).length = (xs.take k).length := by simp; omega
    have h1 := ptO_len h hlk
    have h2 := ptO_len hx hl
    have h3 := ptO_append (ns.take k) (ns.drop k) (xs.take k) (xs.drop k) hlk
    rw [List.take_append_drop, List.take_append_drop] at h3
    have := congrArg List.length h3
    rw [List.length_append] at this
    omega
theorem slen (s : Bs) (n : Nat) (h : s.length ≤ 9223372036854775807) : s.length ≤ 9223372036854775807 := h
set_option maxHeartbeats 16000000 in
set_option maxRecDepth 20000 in
theorem obj_step (ns : List Bs) (xs : List J) (IH : ∀ x ∈ xs, PvC x) (na : Option Addr) (nc : Nat) (xa : Option Addr) (xc : Nat) (W0 : World) (B b : Nat) (l : Bs) (w : World) (hE : Env W0) (hns : Nms W0 na ns) (hnl : ns.length = xs.length) (hxs : 0 < xs.length → ∃ b o, xa = some ⟨b, o, none⟩ ∧ JsP W0 b o xs) (hm : mayL xs = true) (hw : Below W0.heap.size W0 w) (h0 : W0.heap.size ≤ B) (hB : B ≤ w.heap.size) (hp : Pr B b l w) (hl : l.length ≤ 4000) :
    Calls Tryd.prog 27 #[.pointer (some ⟨b, 0, none⟩), .agg #[.slice na ns.length nc, .slice xa xs.length xc]] w (PrO B b l (123 :: ptO true ns xs ++ [125]) w) := by
  have hst0 : St W0 B b l w w := St.of h0 hw hp hl (Below.refl _ _) (OthersKept.refl _ _ _) hB
  have hsta := hst0.alloc (.cells #[.slice na ns.length nc, .slice xa xs.length xc] 61)
  have hbx : (w.alloc (.cells #[.slice na ns.length nc, .slice xa xs.length xc] 61)).heap[w.heap.size]? = some (.cells #[.slice na ns.length nc, .slice xa xs.length xc] 61 (0, 0)) := heap_alloc_new w _
  have hbn : w.heap.size ≠ b := by have := hp.lt; omega
  have H1 := hide (put_any B b l [123] _ hsta.pr hsta.bs (by decide) hl)
  have HSA := hide hsta
  have HBX := hide hbx
  have HXS := hide hxs
  have HNS := hide hns
  have HE := hide hE
  have HIH := hide IH
  have HM := hide hm
  have hxl := hns.1
  have HNL := hide hnl
  have hlen : (123 :: ptO true ns xs ++ [125]).length = (ptO true ns xs).length + 2 := by simp
  clear hw hB hxs hE IH hm hns hst0 hsta hbx hp hnl
  go_enter Tryd.func27, Tryd.ntmps27
  go_wp2_with fail
  refine (unhide H1).mono ?_
  rintro e w1 hq
  rcases hq.cases with ⟨hf, rfl, g1, g2, g3⟩ | ⟨hf, rfl, g2⟩
  · have HS := hide (St.more h0 (unhide HSA) hf g1 g2 g3)
    have HB1 := hide (box_keep' g3 (unhide HBX) hbn)
    have b0 : w1.cell? ⟨w.heap.size, 0, none⟩ = some (.slice na ns.length nc) := by rw [Lib.cell_of_heap (unhide HB1)]; rfl
    clear g1 g2 g3 hq H1 hf HBX HSA
    go_wp2_with fail
    go_loopw [11] (fun i9 wr => ∃ k : Nat, i9 = .int .i64 k ∧ k ≤ ns.length ∧ St W0 B b (l ++ [123] ++ ptO true (ns.take k) (xs.take k)) w wr ∧ wr.heap[w.heap.size]? = some (.cells #[.slice na ns.length nc, .slice xa xs.length xc] 61 (0, 0))) (fun i9 _ => ns.length - (Go.RowKit.intOf i9).toNat)
    case atStart => exact ⟨0, rfl, by omega, by simpa [ptO_nil] using unhide HS, unhide HB1⟩
    case round =>
      clear HS HB1 b0
      obtain ⟨k, rfl, hk, hst, hbx⟩ := hrel
      have hle := hst.le
      have hnl := unhide HNL
      by_cases hlt : k < ns.length
      · have hlt' : (k : Int) < (ns.length : Int) := by omega
        have hlx : (k : Int) < (xs.length : Int) := by omega
        obtain ⟨b2, q, rfl, hjs⟩ := unhide HXS (by omega)
        obtain ⟨p3, q3, rfl, hnc⟩ := (unhide HNS).2.2 (by omega)
        obtain ⟨x, hxk⟩ : ∃ x, xs[k]? = some x := ⟨_, List.getElem?_eq_getElem (by omega)⟩
        obtain ⟨a, hak⟩ : ∃ a, ns[k]? = some a := ⟨_, List.getElem?_eq_getElem hlt⟩
        have hal := (unhide HNS).2.1 a (List.mem_of_getElem? hak)
        have n0 : wr.cell? ⟨p3, q3 + k, none⟩ = some (S a) := cell_old hst.b0 (hnc k a hak)
        obtain ⟨na2, nc2, xa2, xc2, hc, hjp⟩ := JsP.at xs k x hjs hxk
        have hmx : may x = true := (mayL_iff xs).1 (unhide HM) x (List.mem_of_getElem? hxk)
        have htk := ptO_take_succ ns xs k a x hnl hak hxk
        have htl := ptO_take_le ns xs (k + 1) hnl
        rw [htk] at htl
        simp only [List.length_append] at htl
        have HIX := hide ((unhide HIH) x (List.mem_of_getElem? hxk) na2 nc2 xa2 xc2 W0 B b)
        have HJP := hide hjp
        have HC := hide hc
        have HST := hide hst
        have HBX := hide hbx
        have HTK := hide htk
        clear hjs hc hjp hst htk hnc hbx hnl
        by_cases hk0 : k = 0
        · have hk1 : ¬ ((0 : Int) < (k : Int)) := by omega
          rw [if_pos hk0] at htl HTK
          clear hk0
          have HP0 := hide (quoted_any B b _ a _ (unhide HST).pr (unhide HST).bs hal (unhide HST).le)
          go_wp2_with fail
          refine (unhide HP0).mono ?_
          rintro e v0 hq
          rcases hq.cases with ⟨hf, rfl, g1, g2, g3⟩ | ⟨hf, rfl, g2⟩
          · have HS0 := hide (St.more h0 (unhide HST) hf g1 g2 g3)
            have HX0 := hide (box_keep' g3 (unhide HBX) hbn)
            clear g1 g2 g3 hq HP0 hf 
            have HP1 := hide (put_any B b _ [58] _ (unhide HS0).pr (unhide HS0).bs (by decide) (unhide HS0).le)
            go_wp2_with fail
            refine (unhide HP1).mono ?_
            rintro e v1 hq
            rcases hq.cases with ⟨hf, rfl, g1, g2, g3⟩ | ⟨hf, rfl, g2⟩
            · have HS1 := hide (St.more h0 (unhide HS0) hf g1 g2 g3)
              have HX1 := hide (box_keep' g3 (unhide HX0) hbn)
              clear g1 g2 g3 hq HP1 hf 
              have HP2 := hide (unhide HIX _ _ (unhide HE) (unhide HJP) hmx (unhide HS1).b0 h0 (unhide HS1).bs (unhide HS1).pr (unhide HS1).le)
              unfold vJ at HP2
              have b1 : v1.cell? ⟨w.heap.size, 1, none⟩ = some (.slice (some ⟨b2, q, none⟩) xs.length xc) := by rw [Lib.cell_of_heap (unhide HX1)]; rfl
              have c0 : v1.cell? ⟨b2, q + k * 5, none⟩ = some (I x.k) := cell_old (unhide HS1).b0 (unhide HC 0 _ rfl)
              have c1 : v1.cell? ⟨b2, q + k * 5 + 1, none⟩ = some (I x.n) := cell_old (unhide HS1).b0 (unhide HC 1 _ rfl)
              have c2 : v1.cell? ⟨b2, q + k * 5 + 2, none⟩ = some (S x.t) := cell_old (unhide HS1).b0 (unhide HC 2 _ rfl)
              have c3 : v1.cell? ⟨b2, q + k * 5 + 3, none⟩ = some (.slice na2 x.ns.length nc2) := cell_old (unhide HS1).b0 (unhide HC 3 _ rfl)
              have c4 : v1.cell? ⟨b2, q + k * 5 + 4, none⟩ = some (.slice xa2 x.xs.length xc2) := cell_old (unhide HS1).b0 (unhide HC 4 _ rfl)
              go_wp2_with fail
              refine (unhide HP2).mono ?_
              rintro e v2 hq
              rcases hq.cases with ⟨hf, rfl, g1, g2, g3⟩ | ⟨hf, rfl, g2⟩
              · have HS2 := hide (St.more h0 (unhide HS1) hf g1 g2 g3)
                have HX2 := hide (box_keep' g3 (unhide HX1) hbn)
                clear g1 g2 g3 hq HP2 hf b1 c0 c1 c2 c3 c4
                go_wp2_with fail
                go_roundw
                case rel => exact ⟨k + 1, by go_num, by omega, by rw [unhide HTK]; simpa [List.append_assoc] using unhide HS2, unhide HX2⟩
                case measure => simp [Go.RowKit.intOf]; omega
              · go_wp2_with fail
                refine ⟨rfl, PrO.bad ?_ ⟨rfl, (unhide HS1).be.trans g2⟩⟩
                simp only [List.length_append, List.length_cons, List.length_nil] at hf htl hlen ⊢
                omega
            · go_wp2_with fail
              refine ⟨rfl, PrO.bad ?_ ⟨rfl, (unhide HS0).be.trans g2⟩⟩
              simp only [List.length_append, List.length_cons, List.length_nil] at hf htl hlen ⊢
              omega
          · go_wp2_with fail
            refine ⟨rfl, PrO.bad ?_ ⟨rfl, (unhide HST).be.trans g2⟩⟩
            simp only [List.length_append, List.length_cons, List.length_nil] at hf htl hlen ⊢
            omega
        · have hk1 : (0 : Int) < (k : Int) := by omega
          rw [if_neg hk0] at htl HTK
          have HP0 := hide (put_any B b _ [44] _ (unhide HST).pr (unhide HST).bs (by decide) (unhide HST).le)
          go_wp2_with fail
          refine (unhide HP0).mono ?_
          rintro e v0 hq
          rcases hq.cases with ⟨hf, rfl, g1, g2, g3⟩ | ⟨hf, rfl, g2⟩
          · have HS0 := hide (St.more h0 (unhide HST) hf g1 g2 g3)
            have HX0 := hide (box_keep' g3 (unhide HBX) hbn)
            clear g1 g2 g3 hq HP0 hf 
            have HP1 := hide (quoted_any B b _ a _ (unhide HS0).pr (unhide HS0).bs hal (unhide HS0).le)
            go_wp2_with fail
            refine (unhide HP1).mono ?_
            rintro e v1 hq
            rcases hq.cases with ⟨hf, rfl, g1, g2, g3⟩ | ⟨hf, rfl, g2⟩
            · have HS1 := hide (St.more h0 (unhide HS0) hf g1 g2 g3)
              have HX1 := hide (box_keep' g3 (unhide HX0) hbn)
              clear g1 g2 g3 hq HP1 hf 
              have HP2 := hide (put_any B b _ [58] _ (unhide HS1).pr (unhide HS1).bs (by decide) (unhide HS1).le)
              go_wp2_with fail
              refine (unhide HP2).mono ?_
              rintro e v2 hq
              rcases hq.cases with ⟨hf, rfl, g1, g2, g3⟩ | ⟨hf, rfl, g2⟩
              · have HS2 := hide (St.more h0 (unhide HS1) hf g1 g2 g3)
                have HX2 := hide (box_keep' g3 (unhide HX1) hbn)
                clear g1 g2 g3 hq HP2 hf 
                have HP3 := hide (unhide HIX _ _ (unhide HE) (unhide HJP) hmx (unhide HS2).b0 h0 (unhide HS2).bs (unhide HS2).pr (unhide HS2).le)
                unfold vJ at HP3
                have b1 : v2.cell? ⟨w.heap.size, 1, none⟩ = some (.slice (some ⟨b2, q, none⟩) xs.length xc) := by rw [Lib.cell_of_heap (unhide HX2)]; rfl
                have c0 : v2.cell? ⟨b2, q + k * 5, none⟩ = some (I x.k) := cell_old (unhide HS2).b0 (unhide HC 0 _ rfl)
                have c1 : v2.cell? ⟨b2, q + k * 5 + 1, none⟩ = some (I x.n) := cell_old (unhide HS2).b0 (unhide HC 1 _ rfl)
                have c2 : v2.cell? ⟨b2, q + k * 5 + 2, none⟩ = some (S x.t) := cell_old (unhide HS2).b0 (unhide HC 2 _ rfl)
                have c3 : v2.cell? ⟨b2, q + k * 5 + 3, none⟩ = some (.slice na2 x.ns.length nc2) := cell_old (unhide HS2).b0 (unhide HC 3 _ rfl)
                have c4 : v2.cell? ⟨b2, q + k * 5 + 4, none⟩ = some (.slice xa2 x.xs.length xc2) := cell_old (unhide HS2).b0 (unhide HC 4 _ rfl)
                go_wp2_with fail
                refine (unhide HP3).mono ?_
                rintro e v3 hq
                rcases hq.cases with ⟨hf, rfl, g1, g2, g3⟩ | ⟨hf, rfl, g2⟩
                · have HS3 := hide (St.more h0 (unhide HS2) hf g1 g2 g3)
                  have HX3 := hide (box_keep' g3 (unhide HX2) hbn)
                  clear g1 g2 g3 hq HP3 hf b1 c0 c1 c2 c3 c4
                  go_wp2_with fail
                  go_roundw
                  case rel => exact ⟨k + 1, by go_num, by omega, by rw [unhide HTK]; simpa [List.append_assoc] using unhide HS3, unhide HX3⟩
                  case measure => simp [Go.RowKit.intOf]; omega
                · go_wp2_with fail
                  refine ⟨rfl, PrO.bad ?_ ⟨rfl, (unhide HS2).be.trans g2⟩⟩
                  simp only [List.length_append, List.length_cons, List.length_nil] at hf htl hlen ⊢
                  omega
              · go_wp2_with fail
                refine ⟨rfl, PrO.bad ?_ ⟨rfl, (unhide HS1).be.trans g2⟩⟩
                simp only [List.length_append, List.length_cons, List.length_nil] at hf htl hlen ⊢
                omega
            · go_wp2_with fail
              refine ⟨rfl, PrO.bad ?_ ⟨rfl, (unhide HS0).be.trans g2⟩⟩
              simp only [List.length_append, List.length_cons, List.length_nil] at hf htl hlen ⊢
              omega
          · go_wp2_with fail
            refine ⟨rfl, PrO.bad ?_ ⟨rfl, (unhide HST).be.trans g2⟩⟩
            simp only [List.length_append, List.length_cons, List.length_nil] at hf htl hlen ⊢
            omega
      · have hke : k = ns.length := by omega
        subst hke
        rw [List.take_length, show xs.take ns.length = xs by rw [hnl, List.take_length]] at hst hle
        have HP := hide (put_any B b _ [125] wr hst.pr hst.bs (by decide) hst.le)
        have HST := hide hst
        clear hst hbx hnl
        go_wp2_with fail
        refine (unhide HP).mono ?_
        rintro e w2 hq
        rcases hq.cases with ⟨hf, rfl, g1, g2, g3⟩ | ⟨hf, rfl, g2⟩
        · go_wp2_with fail
          go_end0
          refine PrO.ok (by simp only [List.length_append, List.length_cons, List.length_nil] at hf hlen ⊢; omega) ⟨rfl, by simpa [List.append_assoc] using g1, (unhide HST).be.trans g2, (unhide HST).ok.trans g3⟩
        · go_wp2_with fail
          refine ⟨rfl, PrO.bad ?_ ⟨rfl, (unhide HST).be.trans g2⟩⟩
          simp only [List.length_append, List.length_cons, List.length_nil] at hf hlen ⊢
          omega
  · go_wp2_with fail
    refine ⟨rfl, PrO.bad ?_ ⟨rfl, (unhide HSA).be.trans g2⟩⟩
    simp only [List.length_append, List.length_cons, List.length_nil] at hf hlen ⊢
    omega
end Go.Proofs.YtfaahjbkdlkmjaaDoor
