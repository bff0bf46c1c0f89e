import Derived.Test.YtpelmacblglhoaaDsy
namespace Go.Proofs.Ytpelmacblglhoaa
open Go.RowKit
set_option maxHeartbeats 8000000
set_option maxRecDepth 8000
def rows (k : Nat) : List Bs := (List.range k).map (fun i : Nat => blkv (i : Int))
theorem rows_len (k : Nat) : (rows k).length = k := by simp [rows]
theorem rows_next (k : Nat) : rows (k + 1) = rows k ++ [blkv (k : Int)] := by simp [rows, List.range_succ]
/-- The blocks that are loaded: one of them is a text of its own. -/
def lrow (m : Nat) (at' : Int) (s : Bs) : List Bs := if 0 < m then (rows m).set (pkv at' m) s else rows m
theorem lrow_len (m : Nat) (at' : Int) (s : Bs) : (lrow m at' s).length = m := by
  unfold lrow
  split <;> simp [rows_len]
theorem loadv_zero {l : List Bs} (h : loadv l = 0) : mayv l.length = true ∧ allR l = true := by
  unfold loadv at h
  split at h
  · omega
  · rename_i q
    split at h
    · omega
    · rename_i r
      exact ⟨by simpa using q, by simpa using r⟩
theorem Ok.new_sz {l : List Bs} (h : loadv l = 0) : ∀ x ∈ l, x.length = 512 := (Ok.new (loadv_zero h).1 (loadv_zero h).2).sz
theorem Ows.set {w wr : World} {g n cap : Nat} {l : List Bs} (h : Ows w (.slice (some ⟨g, 0, none⟩) n cap) l wr) (i : Nat) (x : Bs) : Ows w (.slice (some ⟨g, 0, none⟩) n cap) (l.set i x) (wr.setCell ⟨g, i, none⟩ (S x)) := by
  have hr := h.row
  have hn : l.length = n := by
    obtain ⟨p, c, e⟩ := owns_form hr
    cases e
    rfl
  rw [hn] at hr
  have o := owns_set hr i (S x)
  refine ⟨?_, h.new, h.bel.setCell (p := ⟨g, i, none⟩) (h.new g rfl) _⟩
  rw [List.length_set, List.map_set, hn]
  exact o
theorem diskLoads_any (bl n at' : Int) (s : Bs) (w : World) (b1 : -9223372036854775808 ≤ bl ∧ bl ≤ 9223372036854775807) (b2 : -9223372036854775808 ≤ n ∧ n ≤ 9223372036854775807) (b3 : -9223372036854775808 ≤ at' ∧ at' ≤ 9223372036854775807) :
    Calls Try.prog 4 #[I bl, I n, I at', S s] w fun e w' => e = .returned (.bool true) ∧ Below w.heap.size w w' := by
  have H0 := hide (known_any w)
  have HB := hide (fun (i : Nat) W => block_any (i : Int) W)
  have HP := hide (fun W => pick_any n 4098 W (by omega) (by omega) b2.1 b2.2)
  have hm := pkv_lt n 4098 (by omega)
  generalize pkv n 4098 = m at *
  have HN := hide (fun W => new_any bl W b1)
  have HR := hide (fun W => rNew_any bl W)
  have HA := hide (fun W (h : 0 < m) => pick_any at' m W h (by omega) b3.1 b3.2)
  have HAl := hide (fun h => pkv_lt at' m h)
  have HL := hide (show lrow m at' s = if 0 < m then (rows m).set (pkv at' m) s else rows m from rfl)
  generalize pkv at' m = ia at *
  generalize lrow m at' s = ll at *
  clear b1 b2 b3
  go_enter Try.func4, Try.ntmps4
  go_wp2_with fail
  refine (unhide H0).mono ?_
  rintro e w1 ⟨rfl, bw1⟩
  have X1 := hide bw1
  clear bw1 H0
  go_wp2_with fail
  refine (unhide HN _).mono ?_
  rintro e w2 (⟨hmay, rfl, rfl⟩ | ⟨hmay, D, V, rfl, hd2, nd2, bd2⟩)
  · have hnv : newv bl = 1 := by simp [newv, hmay]
    have X2 := hide (And.intro True.intro (unhide X1))
    clear hmay X1
    have H3 := hide (unhide HR w2)
    rw [hnv] at H3
    go_wp2_with fail
    refine (unhide H3).mono ?_
    rintro e w3 ⟨⟨v3, rfl, hv3⟩, bw3⟩
    obtain rfl := hv3.2 (by decide)
    have X3 := hide (And.intro True.intro ((unhide X2).2.trans (bw3.mono (unhide X2).2.size)))
    clear bw3 hv3 H3 X2
    go_wp2
    go_loopw [14, 15] (fun V5 i wr => ∃ k : Nat, k ≤ m ∧ i = .int .i64 k ∧ Ows w3 V5 (rows k) wr) (fun _ i _ => m - (Go.RowKit.intOf i).toNat)
    case atStart => exact ⟨0, by omega, rfl, Ows.nil w3⟩
    case round =>
      obtain ⟨k, hk, rfl, ho⟩ := hrel
      have HO := hide ho
      clear ho
      by_cases hlt : k < m
      · have hlt' : (k : Int) < (m : Int) := by omega
        go_wp2_with fail
        refine (unhide HP _).mono ?_
        rintro e w5 ⟨rfl, hw5⟩
        rw [hw5]
        clear hw5 w5
        go_wp2_with fail
        refine (unhide HB k _).mono ?_
        rintro e w5 ⟨rfl, bw5⟩
        have HO5 := hide ((unhide HO).below bw5)
        have HN5 := hide (rows_next k)
        have hl5 := rows_len k
        clear bw5
        generalize blkv (k : Int) = bk at *
        go_wp2_with (at_builtin; refine wp_pushS (x := bk) rfl (.tmp 38) (.tmp 41) rfl (by rfl) (by rfl) (unhide HO5) (by omega) ?_; intro V' w6 hw6; have HO6 := hide hw6; clear hw6)
        go_round
        case measure => simp [Go.RowKit.intOf]; omega
        case rel => exact ⟨k + 1, by omega, by simp, by rw [unhide HN5]; exact unhide HO6⟩
      · have hlt' : ¬ (k : Int) < (m : Int) := by omega
        obtain rfl : k = m := by omega
        go_wp2_with fail
        refine (unhide HP _).mono ?_
        rintro e w5 ⟨rfl, hw5⟩
        rw [hw5]
        clear hw5 w5
        by_cases h0 : 0 < k
        · obtain ⟨g, cV, cur5, rfl, hg5, _⟩ := owns_at (unhide HO).row (by rw [rows_len]; exact h0)
          have hrl := rows_len k
          have h0' : (0 : Int) < (k : Int) := by omega
          have hia := unhide HAl h0
          have hia' : (ia : Int) < (k : Int) := by omega
          have hro := (unhide HO).row
          rw [hrl] at hro
          have c5 := owns_cell hro ia _ (by rw [List.getElem?_map, get_getD (z := []) (by rw [hrl]; exact hia)]; rfl)
          have z5 := frz hg5 ia
          have l5 := lt_of_row hg5
          have hsq := unhide HL
          rw [if_pos h0] at hsq
          have HX0 := hide ((unhide HO).set ia s)
          rw [← hsq, hrl] at HX0
          have hll : ll.length = k := by rw [hsq]; simp [hrl]
          have HA5 := hide (fun W => unhide HA W h0)
          generalize hvv : S ((rows k).getD ia []) = vv at c5
          clear hro hg5 hsq HO HN HR HP HB hvv
          rw [hrl]
          go_wp2_with fail
          refine (unhide HA5 _).mono ?_
          rintro e w5 ⟨rfl, hw5⟩
          rw [hw5]
          clear hw5 w5
          obtain ⟨wx, hwx⟩ : ∃ wx, wx = wr.setCell ⟨g, ia, none⟩ (S s) := ⟨_, rfl⟩
          have HX := hide (show Ows w3 (.slice (some ⟨g, 0, none⟩) k cV) ll wx by rw [hwx]; exact unhide HX0)
          have HWX := hide hwx
          clear hwx HX0
          have hsl : Sts wx (some (⟨g, 0, none⟩ : Addr)) k ll := by
            obtain ⟨p9, c9, e9, hs9, _⟩ := Sts.of (unhide HX).row
            rw [hll] at e9 hs9
            cases e9
            exact hs9
          have H6 := hide (load_any (some (⟨g, 0, none⟩ : Addr)) k cV ll wx hsl (by omega))
          have HS6 := hide hsl
          clear hsl
          go_wp2_with fail
          rw [← unhide HWX]
          refine (unhide H6).mono ?_
          clear H6
          rintro e w7 (⟨hl0, rfl, hw7⟩ | ⟨hl0, C, VC, rfl, hc7, nc7, bw7⟩)
          · rw [hw7]
            clear hw7 w7
            have H7 := hide (rLoad_any (some (⟨g, 0, none⟩ : Addr)) k cV ll wx (unhide HS6) (by omega))
            generalize loadv ll = lv at *
            go_wp2_with fail
            refine (unhide H7).mono ?_
            rintro e w8 ⟨⟨v8, rfl, hv8⟩, bw8⟩
            obtain rfl := hv8.2 hl0
            have HB8 := hide ((unhide HX).bel.trans (bw8.mono (unhide HX).bel.size))
            have HB9 := hide ((unhide X3).2.trans ((unhide HB8).mono (unhide X3).2.size))
            clear bw8 hv8 H7 HX HS6 HB8
            go_wp2
            go_ret
            exact ⟨rfl, unhide HB9⟩
          · have H7 := hide (rLoad_any (some (⟨g, 0, none⟩ : Addr)) k cV ll w7 ((unhide HS6).below bw7) (by omega))
            have hsz := fun x hx => (Ok.new_sz hl0) x hx
            have X7 := hide (And.intro hc7 (And.intro nc7 bw7))
            rw [hl0] at H7
            clear hc7 nc7 bw7
            go_wp2_with fail
            refine (unhide H7).mono ?_
            rintro e w8 ⟨⟨v8, rfl, hv8⟩, bw8⟩
            obtain ⟨gy, rfl⟩ := hv8.1 rfl
            have b8 := (unhide X7).2.2.trans (bw8.mono (unhide X7).2.2.size)
            have hc8 := (unhide X7).1.below bw8
            have HB8 := hide ((unhide HX).bel.trans (b8.mono (unhide HX).bel.size))
            have HB9 := hide ((unhide X3).2.trans ((unhide HB8).mono (unhide X3).2.size))
            have H9 := hide (blocks_any hc8 (fun x hx => by have := hsz x hx; omega) (by show ll.length ≤ _; omega))
            have HS8 := hide ((unhide HS6).below b8)
            have HC8 := hide hc8
            clear b8 hc8 bw8 hv8 H7 HX HS6 HB8 X7
            go_wp2_with fail
            refine (unhide H9).mono ?_
            rintro e w10 ⟨V10, rfl, r10, n10, b10⟩
            obtain ⟨p10, c10, rfl, hs10, _⟩ := Sts.of (l := ll) r10
            rw [hll] at hs10
            have hc10 := (unhide HC8).below b10
            have H10 := hide (same_any p10 (some (⟨g, 0, none⟩ : Addr)) k c10 cV ll w10 hs10 ((unhide HS8).below b10) (by omega))
            have HC10 := hide hc10
            have HB10 := hide ((unhide HB9).trans (b10.mono (unhide HB9).size))
            have hok := Ok.new (loadv_zero hl0).1 (loadv_zero hl0).2
            clear r10 n10 b10 hs10 hc10 H9 HS8 HC8 HB9
            rw [hll]
            go_wp2_with fail
            refine (unhide H10).mono ?_
            rintro e w11 ⟨rfl, b11⟩
            have hc11 := (unhide HC10).below b11
            have HZ4 := hide (size_any hc11)
            rw [show (Ds.new ll).last.length = k from hll] at HZ4
            have HZ5 := hide (pending_any hc11 hok)
            have HC11 := hide hc11
            have HB11 := hide ((unhide HB10).trans (b11.mono (unhide HB10).size))
            clear b11 hc11 H10 HC10 HB10
            go_wp2_with fail
            refine (unhide HZ4).mono ?_
            rintro e w12 ⟨rfl, rfl⟩
            go_wp2_with fail
            refine (unhide HZ5).mono ?_
            rintro e w13 ⟨V13, rfl, r13, n13, b13⟩
            obtain ⟨p13, c13, rfl⟩ := owns_form r13
            have hc13 := (unhide HC11).below b13
            have HZ6 := hide (dead_any hc13)
            have HZ7 := hide (acts_any hc13)
            have HB13 := hide ((unhide HB11).trans (b13.mono (unhide HB11).size))
            clear r13 n13 b13 hc13 HZ5 HC11 HB11
            rw [show (Ds.new ll).ws.length = 0 from rfl]
            go_wp2_with fail
            refine (unhide HZ6).mono ?_
            rintro e w14 ⟨rfl, rfl⟩
            go_wp2_with fail
            refine (unhide HZ7).mono ?_
            rintro e w14 ⟨rfl, rfl⟩
            go_wp2
            go_ret
            exact ⟨rfl, unhide HB13⟩
        · obtain rfl : k = 0 := by omega
          obtain ⟨pV, cV, e5⟩ := owns_form (unhide HO).row
          rw [rows_len] at e5
          subst e5
          have hsq := unhide HL
          rw [if_neg h0] at hsq
          have HX := hide (show Ows w3 (.slice pV 0 cV) ll wr by rw [hsq]; exact unhide HO)
          have hll : ll.length = 0 := by rw [hsq]; rfl
          clear hsq HO HN HR HP HB
          have hsl : Sts wr pV 0 ll := by
            obtain ⟨p9, c9, e9, hs9, _⟩ := Sts.of (unhide HX).row
            rw [hll] at e9 hs9
            cases e9
            exact hs9
          have H6 := hide (load_any pV 0 cV ll wr hsl (by omega))
          have HS6 := hide hsl
          clear hsl
          go_wp2_with fail
          refine (unhide H6).mono ?_
          clear H6
          rintro e w7 (⟨hl0, rfl, hw7⟩ | ⟨hl0, C, VC, rfl, hc7, nc7, bw7⟩)
          · rw [hw7]
            clear hw7 w7
            have H7 := hide (rLoad_any pV 0 cV ll wr (unhide HS6) (by omega))
            generalize loadv ll = lv at *
            go_wp2_with fail
            refine (unhide H7).mono ?_
            rintro e w8 ⟨⟨v8, rfl, hv8⟩, bw8⟩
            obtain rfl := hv8.2 hl0
            have HB8 := hide ((unhide HX).bel.trans (bw8.mono (unhide HX).bel.size))
            have HB9 := hide ((unhide X3).2.trans ((unhide HB8).mono (unhide X3).2.size))
            clear bw8 hv8 H7 HX HS6 HB8
            go_wp2
            go_ret
            exact ⟨rfl, unhide HB9⟩
          · have H7 := hide (rLoad_any pV 0 cV ll w7 ((unhide HS6).below bw7) (by omega))
            have hsz := fun x hx => (Ok.new_sz hl0) x hx
            have X7 := hide (And.intro hc7 (And.intro nc7 bw7))
            rw [hl0] at H7
            clear hc7 nc7 bw7
            go_wp2_with fail
            refine (unhide H7).mono ?_
            rintro e w8 ⟨⟨v8, rfl, hv8⟩, bw8⟩
            obtain ⟨gy, rfl⟩ := hv8.1 rfl
            have b8 := (unhide X7).2.2.trans (bw8.mono (unhide X7).2.2.size)
            have hc8 := (unhide X7).1.below bw8
            have HB8 := hide ((unhide HX).bel.trans (b8.mono (unhide HX).bel.size))
            have HB9 := hide ((unhide X3).2.trans ((unhide HB8).mono (unhide X3).2.size))
            have H9 := hide (blocks_any hc8 (fun x hx => by have := hsz x hx; omega) (by show ll.length ≤ _; omega))
            have HS8 := hide ((unhide HS6).below b8)
            have HC8 := hide hc8
            clear b8 hc8 bw8 hv8 H7 HX HS6 HB8 X7
            go_wp2_with fail
            refine (unhide H9).mono ?_
            rintro e w10 ⟨V10, rfl, r10, n10, b10⟩
            obtain ⟨p10, c10, rfl, hs10, _⟩ := Sts.of (l := ll) r10
            rw [hll] at hs10
            have hc10 := (unhide HC8).below b10
            have H10 := hide (same_any p10 pV 0 c10 cV ll w10 hs10 ((unhide HS8).below b10) (by omega))
            have HC10 := hide hc10
            have HB10 := hide ((unhide HB9).trans (b10.mono (unhide HB9).size))
            have hok := Ok.new (loadv_zero hl0).1 (loadv_zero hl0).2
            clear r10 n10 b10 hs10 hc10 H9 HS8 HC8 HB9
            rw [hll]
            go_wp2_with fail
            refine (unhide H10).mono ?_
            rintro e w11 ⟨rfl, b11⟩
            have hc11 := (unhide HC10).below b11
            have HZ4 := hide (size_any hc11)
            rw [show (Ds.new ll).last.length = 0 from hll] at HZ4
            have HZ5 := hide (pending_any hc11 hok)
            have HC11 := hide hc11
            have HB11 := hide ((unhide HB10).trans (b11.mono (unhide HB10).size))
            clear b11 hc11 H10 HC10 HB10
            go_wp2_with fail
            refine (unhide HZ4).mono ?_
            rintro e w12 ⟨rfl, rfl⟩
            go_wp2_with fail
            refine (unhide HZ5).mono ?_
            rintro e w13 ⟨V13, rfl, r13, n13, b13⟩
            obtain ⟨p13, c13, rfl⟩ := owns_form r13
            have hc13 := (unhide HC11).below b13
            have HZ6 := hide (dead_any hc13)
            have HZ7 := hide (acts_any hc13)
            have HB13 := hide ((unhide HB11).trans (b13.mono (unhide HB11).size))
            clear r13 n13 b13 hc13 HZ5 HC11 HB11
            rw [show (Ds.new ll).ws.length = 0 from rfl]
            go_wp2_with fail
            refine (unhide HZ6).mono ?_
            rintro e w14 ⟨rfl, rfl⟩
            go_wp2_with fail
            refine (unhide HZ7).mono ?_
            rintro e w14 ⟨rfl, rfl⟩
            go_wp2
            go_ret
            exact ⟨rfl, unhide HB13⟩
  · have hnv : newv bl = 0 := by simp [newv, hmay]
    have X2 := hide (And.intro hd2 ((unhide X1).trans (bd2.mono (unhide X1).size)))
    have hbl : (bl.toNat : Int) = bl := by simp [mayv] at hmay; omega
    clear hd2 nd2 bd2 hmay X1
    have H3 := hide (unhide HR w2)
    rw [hnv] at H3
    go_wp2_with fail
    refine (unhide H3).mono ?_
    rintro e w3 ⟨⟨v3, rfl, hv3⟩, bw3⟩
    obtain ⟨gx, rfl⟩ := hv3.1 rfl
    have X3 := hide (And.intro ((unhide X2).1.below bw3) ((unhide X2).2.trans (bw3.mono (unhide X2).2.size)))
    clear bw3 hv3 H3 X2
    go_wp2
    go_loopw [14, 15] (fun V5 i wr => ∃ k : Nat, k ≤ m ∧ i = .int .i64 k ∧ Ows w3 V5 (rows k) wr) (fun _ i _ => m - (Go.RowKit.intOf i).toNat)
    case atStart => exact ⟨0, by omega, rfl, Ows.nil w3⟩
    case round =>
      obtain ⟨k, hk, rfl, ho⟩ := hrel
      have HO := hide ho
      clear ho
      by_cases hlt : k < m
      · have hlt' : (k : Int) < (m : Int) := by omega
        go_wp2_with fail
        refine (unhide HP _).mono ?_
        rintro e w5 ⟨rfl, hw5⟩
        rw [hw5]
        clear hw5 w5
        go_wp2_with fail
        refine (unhide HB k _).mono ?_
        rintro e w5 ⟨rfl, bw5⟩
        have HO5 := hide ((unhide HO).below bw5)
        have HN5 := hide (rows_next k)
        have hl5 := rows_len k
        clear bw5
        generalize blkv (k : Int) = bk at *
        go_wp2_with (at_builtin; refine wp_pushS (x := bk) rfl (.tmp 38) (.tmp 41) rfl (by rfl) (by rfl) (unhide HO5) (by omega) ?_; intro V' w6 hw6; have HO6 := hide hw6; clear hw6)
        go_round
        case measure => simp [Go.RowKit.intOf]; omega
        case rel => exact ⟨k + 1, by omega, by simp, by rw [unhide HN5]; exact unhide HO6⟩
      · have hlt' : ¬ (k : Int) < (m : Int) := by omega
        obtain rfl : k = m := by omega
        go_wp2_with fail
        refine (unhide HP _).mono ?_
        rintro e w5 ⟨rfl, hw5⟩
        rw [hw5]
        clear hw5 w5
        by_cases h0 : 0 < k
        · obtain ⟨g, cV, cur5, rfl, hg5, _⟩ := owns_at (unhide HO).row (by rw [rows_len]; exact h0)
          have hrl := rows_len k
          have h0' : (0 : Int) < (k : Int) := by omega
          have hia := unhide HAl h0
          have hia' : (ia : Int) < (k : Int) := by omega
          have hro := (unhide HO).row
          rw [hrl] at hro
          have c5 := owns_cell hro ia _ (by rw [List.getElem?_map, get_getD (z := []) (by rw [hrl]; exact hia)]; rfl)
          have z5 := frz hg5 ia
          have l5 := lt_of_row hg5
          have hsq := unhide HL
          rw [if_pos h0] at hsq
          have HX0 := hide ((unhide HO).set ia s)
          rw [← hsq, hrl] at HX0
          have hll : ll.length = k := by rw [hsq]; simp [hrl]
          have HA5 := hide (fun W => unhide HA W h0)
          generalize hvv : S ((rows k).getD ia []) = vv at c5
          clear hro hg5 hsq HO HN HR HP HB hvv
          rw [hrl]
          go_wp2_with fail
          refine (unhide HA5 _).mono ?_
          rintro e w5 ⟨rfl, hw5⟩
          rw [hw5]
          clear hw5 w5
          obtain ⟨wx, hwx⟩ : ∃ wx, wx = wr.setCell ⟨g, ia, none⟩ (S s) := ⟨_, rfl⟩
          have HX := hide (show Ows w3 (.slice (some ⟨g, 0, none⟩) k cV) ll wx by rw [hwx]; exact unhide HX0)
          have HWX := hide hwx
          clear hwx HX0
          have hsl : Sts wx (some (⟨g, 0, none⟩ : Addr)) k ll := by
            obtain ⟨p9, c9, e9, hs9, _⟩ := Sts.of (unhide HX).row
            rw [hll] at e9 hs9
            cases e9
            exact hs9
          have H6 := hide (load_any (some (⟨g, 0, none⟩ : Addr)) k cV ll wx hsl (by omega))
          have HS6 := hide hsl
          clear hsl
          go_wp2_with fail
          rw [← unhide HWX]
          refine (unhide H6).mono ?_
          clear H6
          rintro e w7 (⟨hl0, rfl, hw7⟩ | ⟨hl0, C, VC, rfl, hc7, nc7, bw7⟩)
          · rw [hw7]
            clear hw7 w7
            have H7 := hide (rLoad_any (some (⟨g, 0, none⟩ : Addr)) k cV ll wx (unhide HS6) (by omega))
            generalize loadv ll = lv at *
            go_wp2_with fail
            refine (unhide H7).mono ?_
            rintro e w8 ⟨⟨v8, rfl, hv8⟩, bw8⟩
            obtain rfl := hv8.2 hl0
            have HB8 := hide ((unhide HX).bel.trans (bw8.mono (unhide HX).bel.size))
            have HB9 := hide ((unhide X3).2.trans ((unhide HB8).mono (unhide X3).2.size))
            have hd8 := (unhide X3).1.below (unhide HB8)
            have HZ1 := hide (size_any hd8)
            have HZ2 := hide (dead_any hd8)
            have HZ3 := hide (acts_any hd8)
            have hzl : (Ds.new (List.replicate bl.toNat zs)).last.length = bl.toNat := by simp [Ds.new]
            rw [hzl, hbl] at HZ1
            clear hd8 hzl
            clear bw8 hv8 H7 HX HS6 HB8
            go_wp2_with fail
            refine (unhide HZ1).mono ?_
            rintro e w9 ⟨rfl, rfl⟩
            go_wp2_with fail
            refine (unhide HZ2).mono ?_
            rintro e w9 ⟨rfl, rfl⟩
            go_wp2_with fail
            refine (unhide HZ3).mono ?_
            rintro e w9 ⟨rfl, rfl⟩
            go_wp2
            go_ret
            exact ⟨rfl, unhide HB9⟩
          · have H7 := hide (rLoad_any (some (⟨g, 0, none⟩ : Addr)) k cV ll w7 ((unhide HS6).below bw7) (by omega))
            have hsz := fun x hx => (Ok.new_sz hl0) x hx
            have X7 := hide (And.intro hc7 (And.intro nc7 bw7))
            rw [hl0] at H7
            clear hc7 nc7 bw7
            go_wp2_with fail
            refine (unhide H7).mono ?_
            rintro e w8 ⟨⟨v8, rfl, hv8⟩, bw8⟩
            obtain ⟨gy, rfl⟩ := hv8.1 rfl
            have b8 := (unhide X7).2.2.trans (bw8.mono (unhide X7).2.2.size)
            have hc8 := (unhide X7).1.below bw8
            have HB8 := hide ((unhide HX).bel.trans (b8.mono (unhide HX).bel.size))
            have HB9 := hide ((unhide X3).2.trans ((unhide HB8).mono (unhide X3).2.size))
            have H9 := hide (blocks_any hc8 (fun x hx => by have := hsz x hx; omega) (by show ll.length ≤ _; omega))
            have HS8 := hide ((unhide HS6).below b8)
            have HC8 := hide hc8
            have hd8 := (unhide X3).1.below (unhide HB8)
            have HZ1 := hide (size_any hd8)
            have HZ2 := hide (dead_any hd8)
            have HZ3 := hide (acts_any hd8)
            have hzl : (Ds.new (List.replicate bl.toNat zs)).last.length = bl.toNat := by simp [Ds.new]
            rw [hzl, hbl] at HZ1
            clear hd8 hzl
            clear b8 hc8 bw8 hv8 H7 HX HS6 HB8 X7
            go_wp2_with fail
            refine (unhide HZ1).mono ?_
            rintro e w9 ⟨rfl, rfl⟩
            go_wp2_with fail
            refine (unhide HZ2).mono ?_
            rintro e w9 ⟨rfl, rfl⟩
            go_wp2_with fail
            refine (unhide HZ3).mono ?_
            rintro e w9 ⟨rfl, rfl⟩
            go_wp2_with fail
            refine (unhide H9).mono ?_
            rintro e w10 ⟨V10, rfl, r10, n10, b10⟩
            obtain ⟨p10, c10, rfl, hs10, _⟩ := Sts.of (l := ll) r10
            rw [hll] at hs10
            have hc10 := (unhide HC8).below b10
            have H10 := hide (same_any p10 (some (⟨g, 0, none⟩ : Addr)) k c10 cV ll w10 hs10 ((unhide HS8).below b10) (by omega))
            have HC10 := hide hc10
            have HB10 := hide ((unhide HB9).trans (b10.mono (unhide HB9).size))
            have hok := Ok.new (loadv_zero hl0).1 (loadv_zero hl0).2
            clear r10 n10 b10 hs10 hc10 H9 HS8 HC8 HB9
            rw [hll]
            go_wp2_with fail
            refine (unhide H10).mono ?_
            rintro e w11 ⟨rfl, b11⟩
            have hc11 := (unhide HC10).below b11
            have HZ4 := hide (size_any hc11)
            rw [show (Ds.new ll).last.length = k from hll] at HZ4
            have HZ5 := hide (pending_any hc11 hok)
            have HC11 := hide hc11
            have HB11 := hide ((unhide HB10).trans (b11.mono (unhide HB10).size))
            clear b11 hc11 H10 HC10 HB10
            go_wp2_with fail
            refine (unhide HZ4).mono ?_
            rintro e w12 ⟨rfl, rfl⟩
            go_wp2_with fail
            refine (unhide HZ5).mono ?_
            rintro e w13 ⟨V13, rfl, r13, n13, b13⟩
            obtain ⟨p13, c13, rfl⟩ := owns_form r13
            have hc13 := (unhide HC11).below b13
            have HZ6 := hide (dead_any hc13)
            have HZ7 := hide (acts_any hc13)
            have HB13 := hide ((unhide HB11).trans (b13.mono (unhide HB11).size))
            clear r13 n13 b13 hc13 HZ5 HC11 HB11
            rw [show (Ds.new ll).ws.length = 0 from rfl]
            go_wp2_with fail
            refine (unhide HZ6).mono ?_
            rintro e w14 ⟨rfl, rfl⟩
            go_wp2_with fail
            refine (unhide HZ7).mono ?_
            rintro e w14 ⟨rfl, rfl⟩
            go_wp2
            go_ret
            exact ⟨rfl, unhide HB13⟩
        · obtain rfl : k = 0 := by omega
          obtain ⟨pV, cV, e5⟩ := owns_form (unhide HO).row
          rw [rows_len] at e5
          subst e5
          have hsq := unhide HL
          rw [if_neg h0] at hsq
          have HX := hide (show Ows w3 (.slice pV 0 cV) ll wr by rw [hsq]; exact unhide HO)
          have hll : ll.length = 0 := by rw [hsq]; rfl
          clear hsq HO HN HR HP HB
          have hsl : Sts wr pV 0 ll := by
            obtain ⟨p9, c9, e9, hs9, _⟩ := Sts.of (unhide HX).row
            rw [hll] at e9 hs9
            cases e9
            exact hs9
          have H6 := hide (load_any pV 0 cV ll wr hsl (by omega))
          have HS6 := hide hsl
          clear hsl
          go_wp2_with fail
          refine (unhide H6).mono ?_
          clear H6
          rintro e w7 (⟨hl0, rfl, hw7⟩ | ⟨hl0, C, VC, rfl, hc7, nc7, bw7⟩)
          · rw [hw7]
            clear hw7 w7
            have H7 := hide (rLoad_any pV 0 cV ll wr (unhide HS6) (by omega))
            generalize loadv ll = lv at *
            go_wp2_with fail
            refine (unhide H7).mono ?_
            rintro e w8 ⟨⟨v8, rfl, hv8⟩, bw8⟩
            obtain rfl := hv8.2 hl0
            have HB8 := hide ((unhide HX).bel.trans (bw8.mono (unhide HX).bel.size))
            have HB9 := hide ((unhide X3).2.trans ((unhide HB8).mono (unhide X3).2.size))
            have hd8 := (unhide X3).1.below (unhide HB8)
            have HZ1 := hide (size_any hd8)
            have HZ2 := hide (dead_any hd8)
            have HZ3 := hide (acts_any hd8)
            have hzl : (Ds.new (List.replicate bl.toNat zs)).last.length = bl.toNat := by simp [Ds.new]
            rw [hzl, hbl] at HZ1
            clear hd8 hzl
            clear bw8 hv8 H7 HX HS6 HB8
            go_wp2_with fail
            refine (unhide HZ1).mono ?_
            rintro e w9 ⟨rfl, rfl⟩
            go_wp2_with fail
            refine (unhide HZ2).mono ?_
            rintro e w9 ⟨rfl, rfl⟩
            go_wp2_with fail
            refine (unhide HZ3).mono ?_
            rintro e w9 ⟨rfl, rfl⟩
            go_wp2
            go_ret
            exact ⟨rfl, unhide HB9⟩
          · have H7 := hide (rLoad_any pV 0 cV ll w7 ((unhide HS6).below bw7) (by omega))
            have hsz := fun x hx => (Ok.new_sz hl0) x hx
            have X7 := hide (And.intro hc7 (And.intro nc7 bw7))
            rw [hl0] at H7
            clear hc7 nc7 bw7
            go_wp2_with fail
            refine (unhide H7).mono ?_
            rintro e w8 ⟨⟨v8, rfl, hv8⟩, bw8⟩
            obtain ⟨gy, rfl⟩ := hv8.1 rfl
            have b8 := (unhide X7).2.2.trans (bw8.mono (unhide X7).2.2.size)
            have hc8 := (unhide X7).1.below bw8
            have HB8 := hide ((unhide HX).bel.trans (b8.mono (unhide HX).bel.size))
            have HB9 := hide ((unhide X3).2.trans ((unhide HB8).mono (unhide X3).2.size))
            have H9 := hide (blocks_any hc8 (fun x hx => by have := hsz x hx; omega) (by show ll.length ≤ _; omega))
            have HS8 := hide ((unhide HS6).below b8)
            have HC8 := hide hc8
            have hd8 := (unhide X3).1.below (unhide HB8)
            have HZ1 := hide (size_any hd8)
            have HZ2 := hide (dead_any hd8)
            have HZ3 := hide (acts_any hd8)
            have hzl : (Ds.new (List.replicate bl.toNat zs)).last.length = bl.toNat := by simp [Ds.new]
            rw [hzl, hbl] at HZ1
            clear hd8 hzl
            clear b8 hc8 bw8 hv8 H7 HX HS6 HB8 X7
            go_wp2_with fail
            refine (unhide HZ1).mono ?_
            rintro e w9 ⟨rfl, rfl⟩
            go_wp2_with fail
            refine (unhide HZ2).mono ?_
            rintro e w9 ⟨rfl, rfl⟩
            go_wp2_with fail
            refine (unhide HZ3).mono ?_
            rintro e w9 ⟨rfl, rfl⟩
            go_wp2_with fail
            refine (unhide H9).mono ?_
            rintro e w10 ⟨V10, rfl, r10, n10, b10⟩
            obtain ⟨p10, c10, rfl, hs10, _⟩ := Sts.of (l := ll) r10
            rw [hll] at hs10
            have hc10 := (unhide HC8).below b10
            have H10 := hide (same_any p10 pV 0 c10 cV ll w10 hs10 ((unhide HS8).below b10) (by omega))
            have HC10 := hide hc10
            have HB10 := hide ((unhide HB9).trans (b10.mono (unhide HB9).size))
            have hok := Ok.new (loadv_zero hl0).1 (loadv_zero hl0).2
            clear r10 n10 b10 hs10 hc10 H9 HS8 HC8 HB9
            rw [hll]
            go_wp2_with fail
            refine (unhide H10).mono ?_
            rintro e w11 ⟨rfl, b11⟩
            have hc11 := (unhide HC10).below b11
            have HZ4 := hide (size_any hc11)
            rw [show (Ds.new ll).last.length = 0 from hll] at HZ4
            have HZ5 := hide (pending_any hc11 hok)
            have HC11 := hide hc11
            have HB11 := hide ((unhide HB10).trans (b11.mono (unhide HB10).size))
            clear b11 hc11 H10 HC10 HB10
            go_wp2_with fail
            refine (unhide HZ4).mono ?_
            rintro e w12 ⟨rfl, rfl⟩
            go_wp2_with fail
            refine (unhide HZ5).mono ?_
            rintro e w13 ⟨V13, rfl, r13, n13, b13⟩
            obtain ⟨p13, c13, rfl⟩ := owns_form r13
            have hc13 := (unhide HC11).below b13
            have HZ6 := hide (dead_any hc13)
            have HZ7 := hide (acts_any hc13)
            have HB13 := hide ((unhide HB11).trans (b13.mono (unhide HB11).size))
            clear r13 n13 b13 hc13 HZ5 HC11 HB11
            rw [show (Ds.new ll).ws.length = 0 from rfl]
            go_wp2_with fail
            refine (unhide HZ6).mono ?_
            rintro e w14 ⟨rfl, rfl⟩
            go_wp2_with fail
            refine (unhide HZ7).mono ?_
            rintro e w14 ⟨rfl, rfl⟩
            go_wp2
            go_ret
            exact ⟨rfl, unhide HB13⟩
end Go.Proofs.Ytpelmacblglhoaa
