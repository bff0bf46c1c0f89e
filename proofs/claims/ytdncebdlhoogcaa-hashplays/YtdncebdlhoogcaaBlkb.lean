import Derived.Test.YtdncebdlhoogcaaBlka
namespace Go.Proofs.Ytdncebdlhoogcaa
open Go.RowKit
open Sha
theorem st_len (s : St) : s.l.length = 8 := rfl
set_option maxHeartbeats 2000000 in
set_option maxRecDepth 100000 in
theorem block_any (s : St) (b : List UInt8) (w : World) (hb : b.length = 64) :
    Calls Try.prog 36 #[.agg (cI s.l), .agg (cI ks), .string ⟨b.toArray⟩] w fun e w' => e = .returned (.agg (cI (mx s b).l)) ∧ Below w.heap.size w w' := by
  have hst := RB.start w s.l ks b
  rw [zi8, zi64] at hst
  have HST := hide hst
  clear hst
  go_enter Try.func36, Try.ntmps36
  go_wp2
  go_loopw [8] (fun i wr => ∃ k : Nat, k ≤ 64 ∧ i = .int .i64 k ∧ RB w wr s.l ks (wt b k)) (fun i _ => 64 - (intOf i).toNat)
  case atStart => exact ⟨0, by omega, rfl, unhide HST⟩
  case round =>
    clear HST
    obtain ⟨k, hk, rfl, h1⟩ := hrel
    have hl := wt_len b k
    by_cases hlt : k < 64
    · by_cases h16 : k < 16
      · have s0 : 4 * k < (ByteArray.mk b.toArray).size := by simp [ByteArray.size]; omega
        have s1 : 4 * k + 1 < (ByteArray.mk b.toArray).size := by simp [ByteArray.size]; omega
        have s2 : 4 * k + 2 < (ByteArray.mk b.toArray).size := by simp [ByteArray.size]; omega
        have s3 : 4 * k + 3 < (ByteArray.mk b.toArray).size := by simp [ByteArray.size]; omega
        have f4 : wr.cell? ⟨w.heap.size + 1 + 1 + 1, k, none⟩ = some (.int .i64 (u ((wt b k).getD k 0))) := by rw [h1.rl.cell]; exact cI_get _ _ (by omega)
        have f5 : wr.frozen? ⟨w.heap.size + 1 + 1 + 1, k, none⟩ = false := h1.rl.frozen k
        have t0 : (4 * (k : Int)) < 64 := by omega
        have t1 : (4 * (k : Int) + 1) < 64 := by omega
        have t2 : (4 * (k : Int) + 2) < 64 := by omega
        have t3 : (4 * (k : Int) + 3) < 64 := by omega
        have p0 : 0 ≤ (4 * (k : Int)) := by omega
        have p1 : 0 ≤ (4 * (k : Int) + 1) := by omega
        have p2 : 0 ≤ (4 * (k : Int) + 2) := by omega
        have p3 : 0 ≤ (4 * (k : Int) + 3) := by omega
        go_wp2
        go_region
        all_goals (go_wp2; go_roundw)
        case rel =>
          refine ⟨k + 1, by omega, by go_num, ?_⟩
          rw [wt_low b k h16]
          rw [be64]
          exact h1.store 1 k _
        case measure => simp [intOf]; omega
      · have hge : 16 ≤ k := by omega
        have f0 : wr.cell? ⟨w.heap.size + 1 + 1 + 1, k - 15, none⟩ = some (.int .i64 (u ((wt b k).getD (k - 15) 0))) := by rw [h1.rl.cell]; exact cI_get _ _ (by omega)
        have f1 : wr.cell? ⟨w.heap.size + 1 + 1 + 1, k - 2, none⟩ = some (.int .i64 (u ((wt b k).getD (k - 2) 0))) := by rw [h1.rl.cell]; exact cI_get _ _ (by omega)
        have hd : decide ((k : Int) < 16) = false := by simp; omega
        have H1 := hide h1
        have HL := hide hl
        clear h1 hl h16
        go_wp2_with fail
        refine (rturn_any _ _ _ (by omega) (by omega)).mono ?_
        rintro e wa ⟨rfl, na, rfl⟩
        go_wp2_with fail
        refine (rturn_any _ _ _ (by omega) (by omega)).mono ?_
        rintro e wa ⟨rfl, nb', rfl⟩
        go_wp2_with fail
        refine (rturn_any _ _ _ (by omega) (by omega)).mono ?_
        rintro e wa ⟨rfl, nc, rfl⟩
        go_wp2_with fail
        refine (rturn_any _ _ _ (by omega) (by omega)).mono ?_
        rintro e wa ⟨rfl, nd, rfl⟩
        have h2 := (unhide H1).drewN (na + nb' + nc + nd)
        clear H1 f0 f1
        simp only [World.drewN_drewN]
        generalize wr.drewN (na + nb' + nc + nd) = w2 at *
        have f2 : w2.cell? ⟨w.heap.size + 1 + 1 + 1, k - 16, none⟩ = some (.int .i64 (u ((wt b k).getD (k - 16) 0))) := by rw [h2.rl.cell]; exact cI_get _ _ (by have := unhide HL; omega)
        have f3 : w2.cell? ⟨w.heap.size + 1 + 1 + 1, k - 7, none⟩ = some (.int .i64 (u ((wt b k).getD (k - 7) 0))) := by rw [h2.rl.cell]; exact cI_get _ _ (by have := unhide HL; omega)
        have f4 : w2.cell? ⟨w.heap.size + 1 + 1 + 1, k, none⟩ = some (.int .i64 (u ((wt b k).getD k 0))) := by rw [h2.rl.cell]; exact cI_get _ _ (by have := unhide HL; omega)
        have f5 : w2.frozen? ⟨w.heap.size + 1 + 1 + 1, k, none⟩ = false := h2.rl.frozen k
        have H2 := hide h2
        clear h2
        go_wp2
        go_region
        all_goals (go_wp2; go_roundw)
        case rel =>
          refine ⟨k + 1, by omega, by go_num, ?_⟩
          rw [wt_high b k hge]
          rw [nx64 _ _ _ _ _ k rfl rfl rfl rfl]
          exact (unhide H2).store 1 k _
        case measure => simp [intOf]; omega
    · have hk64 : k = 64 := by omega
      have hd : decide ((k : Int) < 64) = false := by simp; omega
      rw [hk64, wt_all] at h1
      have H1 := hide h1
      have HR := hide h1.rs
      have h4 := h1.sz
      clear h1 hl hlt hk64
      have HN : Hid (Row (wr.alloc (.cells #[.int .i64 0, .int .i64 0, .int .i64 0, .int .i64 0, .int .i64 0, .int .i64 0, .int .i64 0, .int .i64 0] 56)) (w.heap.size + 4) (cI z8) 56) := hide (by rw [← zi8, ← h4]; exact Row.new wr (cI z8) 56)
      go_wp2_with (first | (refine wpList_load_row rfl 56 (.tmp 3) rfl w.heap.size rfl 56 (cI s.l) (0, 0) _ (unhide HR) Try.underlying56 rfl (sz56 (st_len _)) ?_) | (refine wpList_store_row rfl 56 (.tmp 13) (.tmp 95) rfl (w.heap.size + 4) (cI s.l) (by rfl) (by rfl) 56 (cI z8) (unhide HN) (sz56 (st_len _)) (by rw [cI_size, cI_size, st_len]; rfl) (cI_one _) ?_))
      have h2 := (unhide H1).next (cI z8)
      rw [zi8] at h2
      have H2 := hide h2
      clear H1 HR HN h2
      generalize (wr.alloc (.cells #[.int .i64 0, .int .i64 0, .int .i64 0, .int .i64 0, .int .i64 0, .int .i64 0, .int .i64 0, .int .i64 0] 56)).setRow (w.heap.size + 4) (cI s.l) = wv at *
      go_loopw [14] (fun i wr => ∃ t : Nat, t ≤ 64 ∧ i = .int .i64 t ∧ RV w wr s.l b (rn (ws b) s t)) (fun i _ => 64 - (intOf i).toNat)
      case atStart => exact ⟨0, by omega, rfl, unhide H2⟩
      case round =>
        clear H2 h4 hd hk
        obtain ⟨t, ht, rfl, h1⟩ := hrel
        by_cases hlt : t < 64
        · have i0 : (0 : Int) ≤ (t : Int) := by omega
          have i1 : (t : Int) < 64 := by omega
          have cw : wr.cell? ⟨w.heap.size + 1 + 1 + 1, t, none⟩ = some (.int .i64 (u ((ws b).getD t 0))) := by rw [h1.rl.cell]; exact cI_get _ _ (by rw [ws_len]; omega)
          have ck : wr.cell? ⟨w.heap.size + 1, t, none⟩ = some (.int .i64 (u (ks.getD t 0))) := by rw [h1.rk.cell]; exact cI_get _ _ (by rw [ks_len]; omega)
          generalize hv : rn (ws b) s t = v at h1
          generalize hkk : ks.getD t 0 = kk at ck
          generalize hww : (ws b).getD t 0 = ww at cw
          have HV := hide hv
          have HKK := hide hkk
          have HWW := hide hww
          clear hv hkk hww
          obtain ⟨f0, f1, f2, f3, f4, f5, f6, f7⟩ := h1.c
          go_wp2_with fail
          go_quiet ((go_at_call 44; exact Calls.quiet_of (rturn_any _ _ _ (by omega) (by omega))))
          rw [xi_eq]
          have h2 := h1.drewN nq
          clear h1 f0 f1 f2 f3 f4 f5 f6 f7 ck cw
          generalize wr.drewN nq = w2 at *
          obtain ⟨f0, f1, f2, f3, f4, f5, f6, f7⟩ := h2.c
          go_wp2_with fail
          go_quiet ((go_at_call 44; exact Calls.quiet_of (rturn_any _ _ _ (by omega) (by omega))))
          rw [yi_eq]
          have h3 := h2.drewN nq
          clear h2 f0 f1 f2 f3 f4 f5 f6 f7
          generalize w2.drewN nq = w3 at *
          obtain ⟨f0, f1, f2, f3, f4, f5, f6, f7⟩ := h3.c
          have H3 := hide h3
          clear h3
          go_wp2_with (refine wpList_store_row rfl 56 (.tmp 13) (.tmp 185) rfl (w.heap.size + 4) (cI (rnd v kk ww).l) (by rfl) (by exact congrArg Value.agg (rnd_cellsI v kk ww)) 56 (cI v.l) (unhide H3).rv (sz56 (st_len _)) (by rw [cI_size, cI_size, st_len]; rfl) (cI_one _) ?_)
          go_roundw
          case rel =>
            refine ⟨t + 1, by omega, by go_num, ?_⟩
            have e : rn (ws b) s (t + 1) = rnd v kk ww := by rw [rn, unhide HV, unhide HKK, unhide HWW]
            rw [e]
            exact (unhide H3).store _
          case measure => simp [intOf]; omega
        · have h64 : t = 64 := by omega
          have hd : decide ((t : Int) < 64) = false := by simp; omega
          generalize hv : rn (ws b) s t = v at h1
          have HV := hide (show rn (ws b) s 64 = v by rw [← hv, h64])
          clear hv hlt h64
          have h0 : RV w wr (part s.l v.l 0) b v := h1
          have H0 := hide h0
          clear h0 h1
          go_wp2
          go_loopw [17] (fun i wr => ∃ k : Nat, k ≤ 8 ∧ i = .int .i64 k ∧ RV w wr (part s.l v.l k) b v) (fun i _ => 8 - (intOf i).toNat)
          case atStart => exact ⟨0, by omega, rfl, unhide H0⟩
          case round =>
            clear H0
            obtain ⟨j, hj, rfl, h1⟩ := hrel
            by_cases hlt : j < 8
            · have i0 : (0 : Int) ≤ (j : Int) := by omega
              have i1 : (j : Int) < 8 := by omega
              have c2 : wr.cell? ⟨w.heap.size, j, none⟩ = some (.int .i64 (u (s.l.getD j 0))) := by
                rw [h1.rs.cell, cI_get _ _ (by rw [part_len]; exact hlt), part_at _ _ _ hlt]
              have z2 : wr.frozen? ⟨w.heap.size, j, none⟩ = false := h1.rs.frozen j
              have c7 : wr.cell? ⟨w.heap.size + 4, j, none⟩ = some (.int .i64 (u (v.l.getD j 0))) := by
                rw [h1.rv.cell, cI_get _ _ (show j < 8 from hlt)]
              have n7 : w.heap.size + 4 ≠ w.heap.size := by omega
              generalize hx : s.l.getD j 0 = x at c2
              generalize hy : v.l.getD j 0 = y at c7
              have HX := hide hx
              have HY := hide hy
              have H1 := hide h1
              clear hx hy h1
              go_wp2
              go_region
              all_goals (go_wp2; go_roundw)
              case rel =>
                refine ⟨j + 1, by omega, by go_num, ?_⟩
                rw [sum2, part_next _ _ _ hlt, unhide HX, unhide HY]
                exact (unhide H1).put j 1 _
              case measure => simp [intOf]; omega
            · have hk8 : j = 8 := by omega
              have hd8 : decide ((j : Int) < 8) = false := by simp; omega
              have e8 : part s.l v.l j = (mx s b).l := by rw [hk8, part_last, mx, unhide HV]
              have rz := h1.rz
              have rs := h1.rs
              rw [e8] at rs
              have hbe := h1.be
              clear h1 hk8 e8 hlt hj HV
              have HR := hide rs
              have HZ := hide rz
              clear rs rz
              go_wp2_with (first | (refine wpList_load_row rfl 56 (.tmp 3) rfl w.heap.size rfl 56 (cI (mx s b).l) (0, 0) _ (unhide HR) Try.underlying56 rfl (sz56 (st_len _)) ?_) | (refine wpList_store_row rfl 56 (.tmp 6) (.tmp 200) rfl (w.heap.size + 1 + 1) (cI (mx s b).l) (by rfl) (by rfl) 56 (cI z8) (unhide HZ) (sz56 (st_len _)) (by rw [cI_size, cI_size, st_len]; rfl) (cI_one _) ?_))
              have hr := (unhide HZ).setRow (cI (mx s b).l)
              exact bodyPost_ret (v := .agg (cI (mx s b).l)) (results_cell_row Try.results36 _ _ (w.heap.size + 1 + 1) 56 (cI (mx s b).l) (0, 0) _ rfl hr Try.underlying56 rfl (sz56 (st_len _))) rfl ⟨rfl, below_row hbe (by omega) _⟩
end Go.Proofs.Ytdncebdlhoogcaa
