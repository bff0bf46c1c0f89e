import Derived.Test.YtdncebdlhoogcaaPlya
namespace Go.Proofs.Ytdncebdlhoogcaa
open Go.RowKit
open Sha
theorem info39 : (Try.prog.info? 39).map (fun i => (i.zero, i.size, i.bytes)) = some (some (.pointer none), 1, 8) := by kernel_rfl
theorem getD_le {ts : List (List UInt8)} {m : Nat} (h : ∀ j, (ts.getD j []).length ≤ m) (t : List UInt8) (ht : t.length ≤ m) : ∀ j, ((ts ++ [t]).getD j []).length ≤ m := by
  intro j
  by_cases hj : j < ts.length
  · have := h j
    simpa [List.getElem?_append_left hj] using this
  · by_cases e : j = ts.length
    · subst e
      simpa using ht
    · rw [List.getD_eq_getElem?_getD, List.getElem?_eq_none (by simp; omega)]
      simp
theorem set_le {ts : List (List UInt8)} {m n : Nat} (h : ∀ j, (ts.getD j []).length ≤ m) (i : Nat) (x : List UInt8) (hx : x.length ≤ n) (hm : m ≤ n) : ∀ j, ((ts.set i x).getD j []).length ≤ n := by
  intro j
  by_cases e : i = j
  · subst e
    by_cases hi : i < ts.length
    · simpa [hi] using hx
    · rw [List.getD_eq_getElem?_getD, List.getElem?_eq_none (by simp; omega)]
      simp
  · have e2 : (ts.set i x).getD j [] = ts.getD j [] := by simp [e]
    rw [e2]
    exact Nat.le_trans (h j) hm
theorem PI.cH {gh ch : Nat} {w wr : World} {vs : Value} {bs : List Nat} {rs ts : List (List UInt8)} (h : PI w wr (.slice (some ⟨gh, 0, none⟩) bs.length ch) vs bs rs ts) (j : Nat) (hj : j < bs.length) :
    wr.cell? ⟨gh, j, none⟩ = some (.pointer (some ⟨bs.getD j 0, 0, none⟩)) := by
  obtain ⟨g, cap, e, _, _, hc⟩ := h.atH
  cases e
  exact hc j hj
theorem PI.cS {gs cs : Nat} {w wr : World} {vh : Value} {bs : List Nat} {rs ts : List (List UInt8)} (h : PI w wr vh (.slice (some ⟨gs, 0, none⟩) bs.length cs) bs rs ts) (j : Nat) (hj : j < bs.length) :
    wr.cell? ⟨gs, j, none⟩ = some (.string ⟨(ts.getD j []).toArray⟩) ∧ wr.frozen? ⟨gs, j, none⟩ = false := by
  obtain ⟨g, cap, e, _, _, hc⟩ := h.atS
  cases e
  exact hc j hj
/-- A step's own memory. -/
def sR (X : Stp) : Array Value := #[.int .i64 X.k, .int .i64 X.o, .string ⟨X.s.toArray⟩]
set_option maxHeartbeats 4000000 in
set_option maxRecDepth 8000 in
theorem plays_walk (a : Option Addr) (cap : Nat) (os : List Stp) (w : World) (hp : Scr w a os.length os) (hn : os.length ≤ 140737488351232) (hps : ∀ j, (os.getD j st0).s.length ≤ 140737488351232)
    (ho : ∀ j, -9223372036854775808 ≤ (os.getD j st0).o ∧ (os.getD j st0).o ≤ 9223372036854775807) :
    Calls Try.prog 6 #[.slice a os.length cap] w fun e w' => e = .returned (.bool true) ∧ Below w.heap.size w w' := by
  obtain ⟨i9, hi9, hz90, hz91, hz92⟩ := info_parts info9
  obtain ⟨i39, hi39, hz390, hz391, hz392⟩ := info_parts info39
  have HP := hide hp
  have HPS := hide hps
  have HO := hide ho
  clear hp hps ho
  go_enter Try.func6, Try.ntmps6
  go_wp2_with fail
  refine (over_any a os.length cap os w (unhide HP) hn (unhide HPS)).mono ?_
  rintro e w0 ⟨rfl, r, rfl, hr⟩
  cases r
  case true =>
    go_wp2
    go_ret
    exact ⟨rfl, Below.refl _ _⟩
  case false =>
    have hb0 := hr rfl
    have hlen : os.length ≤ 2147483647 := Nat.le_trans (cns_len os) hb0
    have HB0 := hide hb0
    clear hr hb0 HPS hn
    go_wp2_with fail
    refine (known_any w0).mono ?_
    rintro e w1 ⟨rfl, hb1⟩
    go_wp2_with fail
    refine (new_any w1).mono ?_
    rintro e w2 ⟨b, rfl, hbb, hr2, hb2⟩
    have hP0 := PI.start (hb1.trans (hb2.mono hb1.size)) b (Nat.le_trans hb1.size hbb) hr2
    have HP0 := hide hP0
    clear hb1 hb2 hbb hr2 hP0
    go_wp2
    go_loopw [4, 5, 6] (fun vh vs i wr => ∃ (k : Nat) (bs : List Nat) (ts : List (List UInt8)), k ≤ os.length ∧ i = .int .i64 k ∧ PI w0 wr vh vs bs ts ts ∧ bs.length ≤ k + 1 ∧ ∀ j, (ts.getD j []).length ≤ cns (os.take k)) (fun _ _ i _ => os.length - (intOf i).toNat)
    case atStart => exact ⟨0, [b], [[]], by omega, rfl, unhide HP0, by simp, fun j => by cases j <;> simp [cns]⟩
    case round =>
      clear HP0
      obtain ⟨k, bs, ts, hkl, rfl, hI, hbl, htl⟩ := hrel
      have hcn : cns (os.take k) ≤ 2147483647 := Nat.le_trans (cns_mono os k) (unhide HB0)
      by_cases hlt : k < os.length
      · obtain ⟨p, o, rfl, hpl, q1, q2, q3⟩ := (unhide HP).at hlt
        have c1 := (hI.be.cell (by exact hpl)).trans q1
        have c2 := (hI.be.cell (by exact hpl)).trans q2
        have c3 := (hI.be.cell (by exact hpl)).trans q3
        have hXo := unhide HO k
        have hnx := hide (cns_next os k hlt)
        have hcn1 : cns (os.take (k + 1)) ≤ 2147483647 := Nat.le_trans (cns_mono os (k + 1)) (unhide HB0)
        generalize os.getD k st0 = X at *
        have hXs : X.s.length ≤ 2147483647 := by rw [unhide hnx] at hcn1; omega
        clear q1 q2 q3
        obtain ⟨gh, ch, rfl, hgh, hgh0, cH⟩ := hI.atH
        obtain ⟨gs, cs, rfl, hgs, hgs0, cS⟩ := hI.atS
        have hpos := hI.pos
        have HI := hide hI
        have HT := hide htl
        clear hI htl cH cS
        go_wp2_with fail
        refine (pick_any X.o _ _ hXo.1 hXo.2 (by omega) (by omega)).mono ?_
        rintro e w3 ⟨m, hm, rfl, hw3⟩
        have hm : m < bs.length := by omega
        have hI3 : PI w0 w3 (.slice (some ⟨gh, 0, none⟩) bs.length ch) (.slice (some ⟨gs, 0, none⟩) bs.length cs) bs ts ts := by rw [hw3]; exact (unhide HI).below (alloc_below wr _)
        have hR3 : Row w3 wr.heap.size (sR X) 43 := by rw [hw3]; exact Row.new wr _ 43
        have h7 : w0.heap.size ≤ wr.heap.size := (unhide HI).be.size
        have hn7 : ∀ j, j < bs.length → bs.getD j 0 ≠ wr.heap.size := fun j hj => Nat.ne_of_lt ((unhide HI).row j hj).lt
        have hs7 : gs ≠ wr.heap.size := Nat.ne_of_lt hgs
        clear HI c1 c2 c3 hpl hXo hw3 hgh hgs
        generalize wr.heap.size = b7 at *
        have d0 : w3.cell? ⟨b7, 0, none⟩ = some (.int .i64 X.k) := by rw [hR3.cell]; rfl
        have d1 : w3.cell? ⟨b7, 2, none⟩ = some (.string ⟨X.s.toArray⟩) := by rw [hR3.cell]; rfl
        have eH := hI3.cH m hm
        have eS := (hI3.cS m hm).1
        have hTm := unhide HT m
        have hRm := hI3.row m hm
        have hB7 := hn7 m hm
        have eL := hI3.cH (bs.length - 1) (by omega)
        have eSf := (hI3.cS m hm).2
        have HI3 := hide hI3
        have HR3 := hide hR3
        have HRm := hide hRm
        clear hI3 hR3 hRm hn7
        generalize hT : ts.getD m [] = T at *
        generalize hB : bs.getD m 0 = B at *
        generalize bs.getD (bs.length - 1) 0 = BL at *
        generalize X.k = K at *
        have hTl : T.length ≤ 2147483647 := by omega
        have HTm := hide hTm
        have HTT := hide hT
        have HBB := hide hB
        clear hTm hT hB
        have hmono : cns (os.take k) ≤ cns (os.take (k + 1)) := by rw [unhide hnx]; omega
        by_cases k1 : K = 1
        · subst k1
          go_wp2_with fail
          refine (new_any w3).mono ?_
          rintro e w4 ⟨g, rfl, hbb, hr4, hb4⟩
          have hI4 := (unhide HI3).below hb4
          have HI4 := hide hI4
          clear d0 d1 eH eS eL eSf hI4
          go_wp2_with (at_builtin; refine wpList_append_own _ rfl _ _ 41 rfl w0.heap.size 39 i39 (.pointer none) 1 8 Try.underlying41 hi39 hz390 hz391 hz392 rfl (by decide) _ _ _ rfl ((unhide HI4).oh.alloc _) ⟨w4.heap.size, 0, none⟩ 1 1 [pt g] rfl rfl ?c1 ?c2 ?c3 ?c4 ?c5 ?_)
          case c1 =>
            intro j' u' hj'
            match j', hj' with
            | 0, hj' => simp at hj'; subst hj'; simp [Addr.add, pt]
          case c2 => intro u' hu'; simp at hu'; subst hu'; rfl
          case c3 => unfold maxLen; omega
          case c4 => omega
          case c5 => have := (unhide HI4).be.size; simp; omega
          intro vh' w5 hown5 hgrow5 _
          have h4a := (unhide HI4).below (alloc_below w4 (.cells #[pt g] 39))
          have os5 := h4a.os.kept hgrow5 (.inr h4a.apart)
          have hb5 : Below w0.heap.size w0 w5 := h4a.be.grown hgrow5 h4a.be.size (fun q e => (h4a.oh.lt q e).1)
          have HS5 := hide os5
          have HO5 := hide hown5
          have HG5 := hide hgrow5
          clear os5 hown5 hgrow5 h4a
          go_wp2_with (at_builtin; refine wpList_append_own _ rfl _ _ 22 rfl w0.heap.size 9 i9 (.string ⟨#[]⟩) 1 16 Try.underlying22 hi9 hz90 hz91 hz92 rfl (by decide) _ _ _ rfl ((unhide HS5).alloc _) ⟨w5.heap.size, 0, none⟩ 1 1 [tS []] rfl rfl ?c1 ?c2 ?c3 ?c4 ?c5 ?_)
          case c1 =>
            intro j' u' hj'
            match j', hj' with
            | 0, hj' => simp at hj'; subst hj'; simp [Addr.add, tS]
          case c2 => intro u' hu'; simp at hu'; subst hu'; rfl
          case c3 => unfold maxLen; omega
          case c4 => omega
          case c5 => have := hb5.size; simp; omega
          intro vs' w6 hown6 hgrow6 _
          have hI6 : PI w0 w6 vh' vs' (bs ++ [g]) (ts ++ [[]]) (ts ++ [[]]) := (unhide HI3).pushed g [] (.cells #[pt g] 39) (.cells #[tS []] 9) hb4 hbb hr4 (unhide HO5) (unhide HG5) hown6 hgrow6
          have HI6 := hide hI6
          obtain ⟨gh', ch', rfl, _, _, cH'⟩ := hI6.atH
          have eL' := cH' bs.length (by simp)
          generalize (bs ++ [g]).getD bs.length 0 = BL' at *
          have hl' : (bs ++ [g]).length = bs.length + 1 := by simp
          rw [hl'] at HI6 ⊢
          clear cH' hI6 hown6 hgrow6 HS5 HO5 HG5 hl'
          go_wp2
          go_roundw
          case rel => exact ⟨k + 1, bs ++ [g], ts ++ [[]], by omega, by go_num, unhide HI6, by simp; omega, getD_le (fun j => Nat.le_trans (unhide HT j) hmono) [] (by simp)⟩
          case measure => simp [intOf]; omega
        by_cases k2 : K = 2
        · subst k2
          clear k1
          have hd3 : Below w3.heap.size w3 w3.drew := (Below.refl _ _).drew
          have hI3d := (unhide HI3).below hd3
          have hW := write_any (took h0 T) B X.s w3.drew (unhide HRm).drew (by rw [took_t]; rfl) (by rw [took_n, h0_n]; omega)
          have hWr : ∀ w4, Row w4 B (hc (took (took h0 T) X.s)) 70 → Only B w3.drew w4 → PI w0 w4 (.slice (some ⟨gh, 0, none⟩) bs.length ch) (.slice (some ⟨gs, 0, none⟩) bs.length cs) bs (ts.set m (T ++ X.s)) ts ∧ w4.cell? ⟨b7, 2, none⟩ = some (.string ⟨X.s.toArray⟩) ∧ w4.cell? ⟨gs, m, none⟩ = some (.string ⟨T.toArray⟩) ∧ w4.frozen? ⟨gs, m, none⟩ = false := by
            intro w4 hr ho
            have hI4 : PI w0 w4 (.slice (some ⟨gh, 0, none⟩) bs.length ch) (.slice (some ⟨gs, 0, none⟩) bs.length cs) bs (ts.set m (T ++ X.s)) ts := by
              have := hI3d.write (w' := w4) m hm X.s (by rw [unhide HBB, unhide HTT]; exact hr) (by rw [unhide HBB]; exact ho)
              rwa [unhide HTT] at this
            have hq := hI4.cS m hm
            rw [unhide HTT] at hq
            exact ⟨hI4, by rw [(ho.row (unhide HR3).drew (Ne.symm hB7)).cell]; rfl, hq⟩
          have HWr := hide hWr
          clear hWr hd3 hI3d
          go_wp2_with fail
          go_region_with (go_at_call 27; refine hW.mono ?_; rintro e w4 ⟨rfl, hr4, ho4⟩; obtain ⟨hI4, d4, eS4, eSf4⟩ := unhide HWr w4 hr4 ho4)
          all_goals go_wp2_with fail
          all_goals clear d0 d1 eH eS eSf hW
          all_goals go_region
          all_goals
            have hI5 : PI w0 (w4.setCell ⟨gs, m, none⟩ (.string (⟨T.toArray⟩ ++ ⟨X.s.toArray⟩))).drew (.slice (some ⟨gh, 0, none⟩) bs.length ch) (.slice (some ⟨gs, 0, none⟩) bs.length cs) bs (ts.set m (T ++ X.s)) (ts.set m (T ++ X.s)) := by
              rw [bytes_append]
              exact hI4.text m (T ++ X.s) 1
            generalize (w4.setCell ⟨gs, m, none⟩ (.string (⟨T.toArray⟩ ++ ⟨X.s.toArray⟩))).drew = w5 at *
            have eL5 := hI5.cH (bs.length - 1) (by omega)
            generalize bs.getD (bs.length - 1) 0 = BL5 at *
            have HI5 := hide hI5
            clear hI4 hr4 ho4 d4 eS4 eSf4 hI5
            go_wp2
            go_roundw
          all_goals try (simp [intOf]; omega)
          all_goals exact ⟨k + 1, bs, ts.set m (T ++ X.s), by omega, by go_num, unhide HI5, by omega, set_le (unhide HT) m (T ++ X.s) (by rw [List.length_append, unhide hnx]; have := unhide HTm; omega) hmono⟩
        by_cases k3 : K = 3
        · subst k3
          clear k1 k2
          have hdr : Below w3.heap.size w3 w3.drew := (Below.refl _ _).drew
          have q28 : ∀ w', Below w3.heap.size w3 w' → Calls Try.prog 28 #[.pointer (some ⟨B, 0, none⟩)] w' fun e w'' => e = .returned (.string ⟨(sum T).toArray⟩) ∧ Below w'.heap.size w' w'' := fun w' hb =>
            hsum_any (took h0 T) B w' ((unhide HRm).below hb (unhide HRm).lt) (by rw [took_t]; rfl) (by rw [took_n, h0_n]; omega)
          have q14 : ∀ w', Below w3.heap.size w3 w' → Calls Try.prog 14 #[.string ⟨T.toArray⟩] w' fun e w'' => e = .returned (.string ⟨(sum T).toArray⟩) ∧ Below w'.heap.size w' w'' := fun w' _ => refsum_any T w' (by omega)
          have fH : ∀ w', Below w3.heap.size w3 w' → w'.cell? ⟨gh, m, none⟩ = some (.pointer (some ⟨B, 0, none⟩)) := fun w' hb => (hb.cell (by exact block_lt_of_cell eH)).trans eH
          have fS : ∀ w', Below w3.heap.size w3 w' → w'.cell? ⟨gs, m, none⟩ = some (.string ⟨T.toArray⟩) := fun w' hb => (hb.cell (by exact block_lt_of_cell eS)).trans eS
          have fL : ∀ w', Below w3.heap.size w3 w' → w'.cell? ⟨gh, bs.length - 1, none⟩ = some (.pointer (some ⟨BL, 0, none⟩)) := fun w' hb => (hb.cell (by exact block_lt_of_cell eL)).trans eL
          go_wp2_with fail
          generalize sum T = D at *
          go_region_with ((first | (go_at_call 28; first | refine (q28 _ hbz).mono ?_ | refine (q28 _ hdr).mono ?_) | (go_at_call 14; first | refine (q14 _ hbz).mono ?_ | refine (q14 _ hdr).mono ?_)); rintro e wb ⟨rfl, hbb⟩; first | have hbz : Below w3.heap.size w3 wb := Below.trans hbz (hbb.mono hbz.size) | have hbz : Below w3.heap.size w3 wb := hdr.trans hbb; have fH1 := fH wb hbz; have fS1 := fS wb hbz)
          all_goals
            have HI4 := hide ((unhide HI3).below hbz)
            have fL1 := fL _ hbz
            clear fH fS fL fH1 fS1 q28 q14 hbb d0 d1 eH eS eSf eL
            go_wp2
            go_roundw
          all_goals try (simp [intOf]; omega)
          all_goals exact ⟨k + 1, bs, ts, by omega, by go_num, unhide HI4, by omega, fun j => Nat.le_trans (unhide HT j) hmono⟩
        by_cases k4 : K = 4
        · subst k4
          clear k1 k2 k3
          have q29 : Calls Try.prog 29 #[.pointer (some ⟨B, 0, none⟩)] w3.drew fun e w'' => e = .returned (.int .i64 (T.length : Int)) ∧ w'' = w3.drew := by
            have := len_any (took h0 T) B w3.drew (unhide HRm).drew (by rw [took_t]; rfl)
            rwa [took_n, h0_n, Nat.zero_add] at this
          go_wp2_with fail
          go_region_with (go_at_call 29; refine q29.mono ?_; rintro e wb ⟨rfl, rfl⟩)
          all_goals
            have HI4 := hide ((unhide HI3).below ((Below.refl _ _).drew))
            clear q29 d0 d1 eH eS eSf
            go_wp2
            go_roundw
          all_goals try (simp [intOf]; omega)
          all_goals exact ⟨k + 1, bs, ts, by omega, by go_num, unhide HI4, by omega, fun j => Nat.le_trans (unhide HT j) hmono⟩
        by_cases k5 : K = 5
        · subst k5
          clear k1 k2 k3 k4
          go_wp2_with fail
          refine (copy_any (took h0 T) B w3 (unhide HRm) (by rw [took_t]; rfl)).mono ?_
          rintro e w4 ⟨g, rfl, hbb, hr4, hb4⟩
          have hI4 := (unhide HI3).below hb4
          have HI4 := hide hI4
          clear d0 d1 eH eS eL eSf hI4
          go_wp2_with (at_builtin; refine wpList_append_own _ rfl _ _ 41 rfl w0.heap.size 39 i39 (.pointer none) 1 8 Try.underlying41 hi39 hz390 hz391 hz392 rfl (by decide) _ _ _ rfl ((unhide HI4).oh.alloc _) ⟨w4.heap.size, 0, none⟩ 1 1 [pt g] rfl rfl ?c1 ?c2 ?c3 ?c4 ?c5 ?_)
          case c1 =>
            intro j' u' hj'
            match j', hj' with
            | 0, hj' => simp at hj'; subst hj'; simp [Addr.add, pt]
          case c2 => intro u' hu'; simp at hu'; subst hu'; rfl
          case c3 => unfold maxLen; omega
          case c4 => omega
          case c5 => have := (unhide HI4).be.size; simp; omega
          intro vh' w5 hown5 hgrow5 _
          have h4a := (unhide HI4).below (alloc_below w4 (.cells #[pt g] 39))
          have os5 := h4a.os.kept hgrow5 (.inr h4a.apart)
          have hb5 : Below w0.heap.size w0 w5 := h4a.be.grown hgrow5 h4a.be.size (fun q e => (h4a.oh.lt q e).1)
          have HS5 := hide os5
          have HO5 := hide hown5
          have HG5 := hide hgrow5
          have eS5 : w5.cell? ⟨gs, m, none⟩ = some (.string ⟨T.toArray⟩) := by
            have hmt : m < ts.length := by rw [(unhide HI3).tl]; exact hm
            rw [os5.cellAt m (by omega), ← unhide HTT]
            simp [tS, hmt]
          clear os5 hown5 hgrow5 h4a
          go_wp2_with (at_builtin; refine wpList_append_own _ rfl _ _ 22 rfl w0.heap.size 9 i9 (.string ⟨#[]⟩) 1 16 Try.underlying22 hi9 hz90 hz91 hz92 rfl (by decide) _ _ _ rfl ((unhide HS5).alloc _) ⟨w5.heap.size, 0, none⟩ 1 1 [tS T] rfl rfl ?c1 ?c2 ?c3 ?c4 ?c5 ?_)
          case c1 =>
            intro j' u' hj'
            match j', hj' with
            | 0, hj' => simp at hj'; subst hj'; simp [Addr.add, tS]
          case c2 => intro u' hu'; simp at hu'; subst hu'; rfl
          case c3 => unfold maxLen; omega
          case c4 => omega
          case c5 => have := hb5.size; simp; omega
          intro vs' w6 hown6 hgrow6 _
          have hI6 : PI w0 w6 vh' vs' (bs ++ [g]) (ts ++ [T]) (ts ++ [T]) := (unhide HI3).pushed g T (.cells #[pt g] 39) (.cells #[tS T] 9) hb4 hbb hr4 (unhide HO5) (unhide HG5) hown6 hgrow6
          have HI6 := hide hI6
          obtain ⟨gh', ch', rfl, _, _, cH'⟩ := hI6.atH
          have eL' := cH' bs.length (by simp)
          generalize (bs ++ [g]).getD bs.length 0 = BL' at *
          have hl' : (bs ++ [g]).length = bs.length + 1 := by simp
          rw [hl'] at HI6 ⊢
          clear cH' hI6 hown6 hgrow6 HS5 HO5 HG5 hl'
          go_wp2
          go_roundw
          case rel => exact ⟨k + 1, bs ++ [g], ts ++ [T], by omega, by go_num, unhide HI6, by simp; omega, getD_le (fun j => Nat.le_trans (unhide HT j) hmono) T (Nat.le_trans (unhide HTm) hmono)⟩
          case measure => simp [intOf]; omega
        have j1 : (K == 1) = false := by simp [k1]
        have j2 : (K == 2) = false := by simp [k2]
        have j3 : (K == 3) = false := by simp [k3]
        have j4 : (K == 4) = false := by simp [k4]
        have j5 : (K == 5) = false := by simp [k5]
        go_wp2
        go_roundw
        case rel => exact ⟨k + 1, bs, ts, by omega, by go_num, unhide HI3, by omega, fun j => Nat.le_trans (unhide HT j) hmono⟩
        case measure => simp [intOf]; omega
      · have hd : decide (k < os.length) = false := by simp; omega
        obtain ⟨gh, ch, rfl, hgh, hgh0, _⟩ := hI.atH
        obtain ⟨gs, cs, rfl, hgs, hgs0, _⟩ := hI.atS
        have hbl2 : bs.length ≤ 2147483648 := by omega
        have HI := hide hI
        have HT := hide htl
        clear hI htl
        go_wp2
        go_loopw [9] (fun i wy => ∃ j : Nat, j ≤ bs.length ∧ i = .int .i64 j ∧ PI w0 wy (.slice (some ⟨gh, 0, none⟩) bs.length ch) (.slice (some ⟨gs, 0, none⟩) bs.length cs) bs ts ts) (fun i _ => bs.length - (intOf i).toNat)
        case atStart => exact ⟨0, by omega, rfl, unhide HI⟩
        case round =>
          obtain ⟨j, hj, rfl, hI2⟩ := hrel
          by_cases hlt2 : j < bs.length
          · have eH := hI2.cH j hlt2
            have eS := (hI2.cS j hlt2).1
            have hRm := hI2.row j hlt2
            have hTj := unhide HT j
            have HI2 := hide hI2
            clear hI2 HI
            generalize ts.getD j [] = T at *
            generalize bs.getD j 0 = B at *
            have hTl : T.length ≤ 2147483647 := by omega
            clear hTj
            have q31 : ∀ w', Below wr.heap.size wr w' → Calls Try.prog 31 #[.pointer (some ⟨B, 0, none⟩), .string ⟨T.toArray⟩] w' fun e w'' => e = .returned (.bool true) ∧ Below w'.heap.size w' w'' := fun w' hb =>
              tells_any T B w' (hRm.below hb hRm.lt) hTl
            have fH : ∀ w', Below wr.heap.size wr w' → w'.cell? ⟨gh, j, none⟩ = some (.pointer (some ⟨B, 0, none⟩)) := fun w' hb => (hb.cell (by exact block_lt_of_cell eH)).trans eH
            have fS : ∀ w', Below wr.heap.size wr w' → w'.cell? ⟨gs, j, none⟩ = some (.string ⟨T.toArray⟩) := fun w' hb => (hb.cell (by exact block_lt_of_cell eS)).trans eS
            have hdr : Below wr.heap.size wr wr.drew := (Below.refl _ _).drew
            clear hRm
            go_wp2_with fail
            go_region_with (go_at_call 31; refine (q31 _ hdr).mono ?_; rintro e wb ⟨rfl, hbb⟩)
            all_goals
              have hbz : Below wr.heap.size wr wb := hdr.trans hbb
              have hbd : Below wr.heap.size wr wb.drew := hbz.drew
              have fH1 := fH wb hbz
              have fS1 := fS wb hbz
              go_wp2_with fail
              go_region_with (go_at_call 31; refine (q31 _ hbd).mono ?_; rintro e wc ⟨rfl, hbc⟩)
            all_goals
              have hbe : Below wr.heap.size wr wc := hbd.trans (hbc.mono hbd.size)
              have HI4 := hide ((unhide HI2).below hbe)
              clear fH fS fH1 fS1 eH eS q31
              go_wp2
              go_roundw
            all_goals try (simp [intOf]; omega)
            all_goals exact ⟨j + 1, by omega, by go_num, unhide HI4⟩
          · have hd2 : decide (j < bs.length) = false := by simp; omega
            go_wp2
            go_ret
            exact ⟨rfl, hI2.be⟩
end Go.Proofs.Ytdncebdlhoogcaa
