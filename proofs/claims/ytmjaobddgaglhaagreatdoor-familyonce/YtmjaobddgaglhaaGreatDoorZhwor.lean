import Derived.Test.YtmjaobddgaglhaaGreatDoorZhnum
import Derived.Test.YtmjaobddgaglhaaGreatDoorHrow
namespace Go.Proofs.YtmjaobddgaglhaaGreatDoor
open Go.RowKit
open Sha
set_option maxRecDepth 8000
def z64 : List UInt32 := List.replicate 64 0
structure WR (w wr : World) (b : List UInt8) (l : List UInt32) : Prop where
  rb : RowK wr w.heap.size (cB b) 171
  rz : RowK wr (w.heap.size + 1) (cU z64) 196
  rl : RowK wr (w.heap.size + 1 + 1) (cU l) 196
  be : Below w.heap.size w wr
  sz : wr.heap.size = w.heap.size + 3
theorem WR.start (w : World) (b : List UInt8) : WR w (((w.alloc (.cells (cB b) 171)).alloc (.cells (cU z64) 196)).alloc (.cells (cU z64) 196)) b (w1 b 0) := by
  refine ⟨?_, ?_, ?_, ?_, ?_⟩
  · exact ((RowK.new w (cB b) 171).alloc _).alloc _
  · have := (RowK.new (w.alloc (.cells (cB b) 171)) (cU z64) 196).alloc (.cells (cU z64) 196)
    simpa using this
  · have := RowK.new ((w.alloc (.cells (cB b) 171)).alloc (.cells (cU z64) 196)) (cU z64) 196
    simp only [World.size_alloc] at this
    exact this
  · exact (((Below.refl _ _).alloc (Nat.le_refl _) _).alloc (by simp) _).alloc (by simp; omega) _
  · simp
theorem z64_lit : cU z64 = #[.int .u32 0, .int .u32 0, .int .u32 0, .int .u32 0, .int .u32 0, .int .u32 0, .int .u32 0, .int .u32 0, .int .u32 0, .int .u32 0, .int .u32 0, .int .u32 0, .int .u32 0, .int .u32 0, .int .u32 0, .int .u32 0, .int .u32 0, .int .u32 0, .int .u32 0, .int .u32 0, .int .u32 0, .int .u32 0, .int .u32 0, .int .u32 0, .int .u32 0, .int .u32 0, .int .u32 0, .int .u32 0, .int .u32 0, .int .u32 0, .int .u32 0, .int .u32 0, .int .u32 0, .int .u32 0, .int .u32 0, .int .u32 0, .int .u32 0, .int .u32 0, .int .u32 0, .int .u32 0, .int .u32 0, .int .u32 0, .int .u32 0, .int .u32 0, .int .u32 0, .int .u32 0, .int .u32 0, .int .u32 0, .int .u32 0, .int .u32 0, .int .u32 0, .int .u32 0, .int .u32 0, .int .u32 0, .int .u32 0, .int .u32 0, .int .u32 0, .int .u32 0, .int .u32 0, .int .u32 0, .int .u32 0, .int .u32 0, .int .u32 0, .int .u32 0] := by rfl
theorem WR.store {w wr : World} {b : List UInt8} {l : List UInt32} (h : WR w wr b l) (n k : Nat) (x : UInt32) : WR w ((wr.setCell ⟨w.heap.size + 1 + 1, k, none⟩ (.int .u32 (u x))).drewN n) b (l.set k x) := by
  refine ⟨?_, ?_, ?_, ?_, ?_⟩
  · exact (h.rb.set_other _ _ (by simp; omega)).drewN n
  · exact (h.rz.set_other _ _ (by simp)).drewN n
  · have := (h.rl.set k (.int .u32 (u x))).drewN n
    rwa [cU_set] at this
  · exact ⟨h.be.os, h.be.tape, h.be.output, by simpa [World.setCell] using h.be.size, (h.be.setCell (p := ⟨w.heap.size + 1 + 1, k, none⟩) (by simp; omega) (.int .u32 (u x))).block⟩
  · simpa [World.setCell] using h.sz
theorem info196 : (Tryz.prog.info? 196).map (·.size) = some 64 := by kernel_rfl
theorem sz74 {l : List UInt32} (h : l.length = 64) : (Tryz.prog.info? 196).map (·.size) = some (cU l).size := by rw [cU_size, h]; exact info196
theorem cU_one (l : List UInt32) : (cU l).all (·.oneCell') = true := by
  simp [cU, U, Value.oneCell']
theorem byte_u (c : UInt8) : (c.toNat : Int) % 4294967296 = u (ub c) := by
  rw [← u_ub]; have := c.toNat_lt; omega
theorem be_eq (b : List UInt8) (k : Nat) : bits BinOp.or IntKind.u32
                (bits BinOp.or IntKind.u32
                  (bits BinOp.or IntKind.u32 (↑(b[4 * k]?.getD 0).toNat % 4294967296 * 16777216 % 4294967296)
                    (↑(b[4 * k + 1]?.getD 0).toNat % 4294967296 * 65536 % 4294967296))
                  (↑(b[4 * k + 2]?.getD 0).toNat % 4294967296 * 256 % 4294967296))
                (↑(b[4 * k + 3]?.getD 0).toNat % 4294967296) = u (Sha.be b k) := by
  have e24 (x : UInt32) : u x * 16777216 % 4294967296 = u (lf x 24) := u_lf x 24 (by omega)
  have e16 (x : UInt32) : u x * 65536 % 4294967296 = u (lf x 16) := u_lf x 16 (by omega)
  have e8 (x : UInt32) : u x * 256 % 4294967296 = u (lf x 8) := u_lf x 8 (by omega)
  simp only [byte_u, e24, e16, e8, u_or, Sha.be, List.getD_eq_getElem?_getD]
theorem u_add4 (a b c d : UInt32) : (u a + u b + u c + u d) % 4294967296 = u (ad (ad (ad a b) c) d) := by
  simp only [u, ad, UInt32.toNat_add]; omega
theorem nx_eq (l : List UInt32) (i j k m t : Nat) (hi : i = t - 16) (hj : j = t - 15) (hk : k = t - 7) (hm : m = t - 2) :
    (u (l[i]?.getD 0) + bits BinOp.xor IntKind.u32 (bits BinOp.xor IntKind.u32 (u (rr (l[j]?.getD 0) 7)) (u (rr (l[j]?.getD 0) 18))) (u (l[j]?.getD 0) / 8) + u (l[k]?.getD 0) +
      bits BinOp.xor IntKind.u32 (bits BinOp.xor IntKind.u32 (u (rr (l[m]?.getD 0) 17)) (u (rr (l[m]?.getD 0) 19))) (u (l[m]?.getD 0) / 1024)) % 4294967296 = u (nx l t) := by
  subst hi hj hk hm
  have e3 (x : UInt32) : u x / 8 = u (rtK x 3) := u_rt x 3 (by omega)
  have e10 (x : UInt32) : u x / 1024 = u (rtK x 10) := u_rt x 10 (by omega)
  simp only [e3, e10, u_xor, u_add4, nx, List.getD_eq_getElem?_getD]
theorem w2_next (b : List UInt8) (m : Nat) (h : 16 ≤ m) : w2 b (m + 1 - 16) = (w2 b (m - 16)).set m (nx (w2 b (m - 16)) m) := by
  obtain ⟨k, rfl⟩ : ∃ k, m = 16 + k := ⟨m - 16, by omega⟩
  rw [show 16 + k + 1 - 16 = k + 1 from by omega, show 16 + k - 16 = k from by omega, w2]
set_option maxHeartbeats 1000000 in
theorem words_any (b : List UInt8) (w : World) (hb : b.length = 64) :
    Calls Tryz.prog 147 #[.agg (cB b)] w fun e w' => e = .returned (.agg (cU (ws b))) ∧ Below w.heap.size w w' := by
  have hst := WR.start w b
  rw [z64_lit] at hst
  have HST := hide hst
  clear hst
  go_enter Tryz.func147, Tryz.ntmps147
  go_wp2
  go_loopw [8] (fun i wr => ∃ k : Nat, k ≤ 16 ∧ i = .int .i64 k ∧ WR w wr b (w1 b k)) (fun i _ => 16 - (intOf i).toNat)
  case atStart => exact ⟨0, by omega, rfl, unhide HST⟩
  case round =>
    clear HST
    obtain ⟨k, hk, rfl, h1⟩ := hrel
    by_cases hlt : k < 16
    · have f0 : wr.cell? ⟨w.heap.size, 4 * k, none⟩ = some (.int .u8 ((b.getD (4 * k) 0).toNat : Int)) := by rw [h1.rb.cell]; exact cB_get b _ (by omega)
      have f1 : wr.cell? ⟨w.heap.size, 4 * k + 1, none⟩ = some (.int .u8 ((b.getD (4 * k + 1) 0).toNat : Int)) := by rw [h1.rb.cell]; exact cB_get b _ (by omega)
      have f2 : wr.cell? ⟨w.heap.size, 4 * k + 2, none⟩ = some (.int .u8 ((b.getD (4 * k + 2) 0).toNat : Int)) := by rw [h1.rb.cell]; exact cB_get b _ (by omega)
      have f3 : wr.cell? ⟨w.heap.size, 4 * k + 3, none⟩ = some (.int .u8 ((b.getD (4 * k + 3) 0).toNat : Int)) := by rw [h1.rb.cell]; exact cB_get b _ (by omega)
      have f4 : wr.cell? ⟨w.heap.size + 1 + 1, k, none⟩ = some (.int .u32 (u ((w1 b k).getD k 0))) := by rw [h1.rl.cell]; exact cU_get _ _ (by rw [w1_len]; omega)
      have f5 : wr.frozen? ⟨w.heap.size + 1 + 1, k, none⟩ = false := h1.rl.frozen k
      have hsz := h1.sz
      go_wp2
      go_region
      all_goals (go_wp2; go_roundw)
      case rel =>
        refine ⟨k + 1, by omega, by go_num, ?_⟩
        rw [be_eq]
        exact h1.store 1 k _
      case measure => simp [intOf]; omega
    · have hk16 : k = 16 := by omega
      have H16 := hide hk16
      have hd : decide ((k : Int) < 16) = false := by simp; omega
      clear hlt hk hk16
      go_wp2
      go_loopw [5] (fun i wr => ∃ m : Nat, 16 ≤ m ∧ m ≤ 64 ∧ i = .int .i64 m ∧ WR w wr b (w2 b (m - 16))) (fun i _ => 64 - (intOf i).toNat)
      case atStart => exact ⟨16, by omega, by omega, rfl, by rw [unhide H16] at h1; exact h1⟩
      case round =>
        clear h1 H16
        obtain ⟨m, hm1, hm2, rfl, hrel⟩ := hrel
        by_cases hlt : m < 64
        · have hl := w2_len b (m - 16)
          have f0 : wr.cell? ⟨w.heap.size + 1 + 1, m - 15, none⟩ = some (.int .u32 (u ((w2 b (m - 16)).getD (m - 15) 0))) := by rw [hrel.rl.cell]; exact cU_get _ _ (by omega)
          have f1 : wr.cell? ⟨w.heap.size + 1 + 1, m - 2, none⟩ = some (.int .u32 (u ((w2 b (m - 16)).getD (m - 2) 0))) := by rw [hrel.rl.cell]; exact cU_get _ _ (by omega)
          have f2 : wr.cell? ⟨w.heap.size + 1 + 1, m - 16, none⟩ = some (.int .u32 (u ((w2 b (m - 16)).getD (m - 16) 0))) := by rw [hrel.rl.cell]; exact cU_get _ _ (by omega)
          have f3 : wr.cell? ⟨w.heap.size + 1 + 1, m - 7, none⟩ = some (.int .u32 (u ((w2 b (m - 16)).getD (m - 7) 0))) := by rw [hrel.rl.cell]; exact cU_get _ _ (by omega)
          have f4 : wr.cell? ⟨w.heap.size + 1 + 1, m, none⟩ = some (.int .u32 (u ((w2 b (m - 16)).getD m 0))) := by rw [hrel.rl.cell]; exact cU_get _ _ (by omega)
          have f5 : wr.frozen? ⟨w.heap.size + 1 + 1, m, none⟩ = false := hrel.rl.frozen m
          clear hl
          go_wp2
          go_region
          go_wp2_with (go_at_call 149; refine (turn_any _ _ _ (by omega) (by omega)).mono ?_; rintro e w' ⟨rfl, rfl⟩)
          go_region
          all_goals (go_wp2; go_roundw)
          case rel =>
            refine ⟨m + 1, by omega, by omega, by go_num, ?_⟩
            rw [nx_eq _ _ _ _ _ m rfl rfl rfl rfl, w2_next b m hm1]
            exact hrel.store 2 m _
          case measure => simp [intOf]; omega
        · have hm : m = 64 := by omega
          subst hm
          go_wp2_with (first | (refine wpList_load_row rfl 196 (.tmp 3) rfl (w.heap.size + 1 + 1) rfl 196 (cU (w2 b 48)) (0, 0) _ hrel.rl Tryz.underlying196 rfl (sz74 (w2_len b 48)) ?_) | (refine wpList_store_row rfl 196 (.tmp 2) (.tmp 86) rfl (w.heap.size + 1) (cU (w2 b 48)) rfl rfl 196 (cU z64) hrel.rz (sz74 (w2_len b 48)) (by rw [cU_size, cU_size, w2_len]; rfl) (cU_one _) ?_))
          have hr := hrel.rz.setRow (cU (w2 b 48))
          exact bodyPost_ret (v := .agg (cU (ws b))) (results_cell_row Tryz.results147 _ _ (w.heap.size + 1) 196 (cU (w2 b 48)) (0, 0) _ rfl hr Tryz.underlying196 rfl (sz74 (w2_len b 48))) rfl ⟨rfl, below_row hrel.be (by omega) _⟩
end Go.Proofs.YtmjaobddgaglhaaGreatDoor
namespace Go.Proofs.YtmjaobddgaglhaaGreatDoor
open Go.RowKit
open Sha
set_option maxRecDepth 8000
theorem ks_len : ks.length = 64 := by rfl
set_option maxHeartbeats 1000000 in
set_option maxRecDepth 100000 in
theorem rounds_any (w : World) :
    Calls Tryz.prog 148 #[] w fun e w' => e = .returned (.agg (cU ks)) ∧ Below w.heap.size w w' := by
  have hr := RowK.new w (cU z64) 196
  rw [z64_lit] at hr
  go_enter Tryz.func148, Tryz.ntmps148
  go_wp2_with (first | (refine wpList_build rfl 196 _ rfl (by kernel_rfl) ?_) | (refine wpList_store_row rfl 196 (.tmp 0) (.tmp 1) rfl w.heap.size (cU ks) rfl (by kernel_rfl) 196 _ hr (sz74 ks_len) (by rw [cU_size, ks_len]; rfl) (cU_one _) ?_))
  have hs := hr.setRow (cU ks)
  exact bodyPost_ret (v := .agg (cU ks)) (results_cell_row Tryz.results148 _ _ w.heap.size 196 (cU ks) (0, 0) _ rfl hs Tryz.underlying196 rfl (sz74 ks_len)) rfl ⟨rfl, below_row ((Below.refl _ _).alloc (Nat.le_refl _) _) (Nat.le_refl _) _⟩
theorem s0_lit : cU s0.l = #[.int .u32 1779033703, .int .u32 3144134277, .int .u32 1013904242, .int .u32 2773480762, .int .u32 1359893119, .int .u32 2600822924, .int .u32 528734635, .int .u32 1541459225] := by rfl
set_option maxHeartbeats 1000000 in
theorem start_any (w : World) :
    Calls Tryz.prog 130 #[] w fun e w' => e = .returned (.agg (cU s0.l)) ∧ Below w.heap.size w w' := by
  rw [s0_lit]
  go_enter Tryz.func130, Tryz.ntmps130
  go_wp2
  exact bodyPost_ret (v := .agg #[.int .u32 1779033703, .int .u32 3144134277, .int .u32 1013904242, .int .u32 2773480762, .int .u32 1359893119, .int .u32 2600822924, .int .u32 528734635, .int .u32 1541459225]) (by simp [results, Tryz.results130, go_sem]) rfl ⟨rfl, (Below.refl _ _).alloc (Nat.le_refl _) _⟩
end Go.Proofs.YtmjaobddgaglhaaGreatDoor
