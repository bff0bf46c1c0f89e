import Derived.Test.YtmjaobddgaglhaaGreatDoorZhflr
import Derived.Test.YtmjaobddgaglhaaGreatDoorZhbka
import Derived.Test.YtmjaobddgaglhaaGreatDoorHdig
import Derived.Test.YtmjaobddgaglhaaGreatDoorZhmet
import Derived.Test.YtmjaobddgaglhaaGreatDoorZhcrc
namespace Go.Proofs.YtmjaobddgaglhaaGreatDoor
open Go.RowKit
open Sha
theorem fil_len' (n : Nat) : (fil n).length = 1 + (119 - n % 64) % 64 + 8 := by
  simp [fil, nb]; omega
theorem fil_mod (l : List UInt8) : (l ++ fil l.length).length % 64 = 0 := by
  rw [List.length_append, fil_len']; omega
theorem took_s (T : List UInt8) (k : Nat) (h : 64 * k + 64 ≤ T.length) : (took h0 (T.take (64 * k + 64))).s = mx (took h0 (T.take (64 * k))).s ((T.drop (64 * k)).take 64) := by
  rw [List.take_add, took_append]
  have hn : (took h0 (T.take (64 * k))).n = 64 * k := by rw [took_n]; simp [h0]; omega
  have ht : (took h0 (T.take (64 * k))).t.length = 64 := by rw [took_t]; rfl
  have hc : ((T.drop (64 * k)).take 64).length = 64 := by simp; omega
  rw [took_chunk _ _ ht (by rw [hn, hc]; omega) (by intro q; rw [q] at hc; cases hc), hn, hc, if_pos (by omega)]
  have e : spl (took h0 (T.take (64 * k))).t (64 * k % 64) ((T.drop (64 * k)).take 64) = (T.drop (64 * k)).take 64 := by
    rw [show 64 * k % 64 = 0 by omega]
    simp only [spl, hc]
    simp only [List.take_zero, List.nil_append, Nat.zero_add]
    rw [@List.drop_eq_nil_of_le _ (took h0 (T.take (64 * k))).t _ (by omega), List.append_nil]
  rw [e]
theorem sum_took (l : List UInt8) : sum l = dig (took h0 (l ++ fil l.length)).s := by
  unfold sum sumH
  rw [took_append, took_n, h0_n, Nat.zero_add]
/-- The rows of the reference's Sum. -/
structure RS (w wr : World) (g4 g5 : Nat) (S : St) : Prop where
  r4 : RowK wr g4 (cI S.l) 148
  r5 : RowK wr g5 (cI ks) 150
  be : Below w.heap.size w wr
  i4 : w.heap.size ≤ g4
  i5 : w.heap.size ≤ g5
  n : g5 ≠ g4
theorem RS.below {w wr w' : World} {g4 g5 : Nat} {S : St} (h : RS w wr g4 g5 S) (hb : Below wr.heap.size wr w') : RS w w' g4 g5 S :=
  ⟨h.r4.below hb h.r4.lt, h.r5.below hb h.r5.lt, h.be.trans (hb.mono h.be.size), h.i4, h.i5, h.n⟩
theorem RS.store {w wr : World} {g4 g5 : Nat} {S : St} (h : RS w wr g4 g5 S) (S' : St) : RS w (wr.setRow g4 (cI S'.l)) g4 g5 S' :=
  ⟨h.r4.setRow _, h.r5.setRow_other _ _ h.n, below_row h.be h.i4 _, h.i4, h.i5, h.n⟩
theorem run_cutH (T : List UInt8) (x y : Int) (i j : Nat) (hx : x = i) (hy : y = j) (hij : i ≤ j) (hj : j ≤ T.length) (w : World) :
    (Instr.slice 9 (.string ⟨T.toArray⟩) (some (.int .i64 x)) (some (.int .i64 y)) none).run Tryz.prog w = .ok (.string ((ByteArray.mk T.toArray).extract i j)) w := by
  subst hx hy
  have hs : (ByteArray.mk T.toArray).size = T.length := by simp [ByteArray.size]
  have h1 := run_sliceBound (P := Tryz.prog) w .i64 (j : Int) T.length
  have h2 := run_sliceBound (P := Tryz.prog) w .i64 (i : Int) j
  simp [Instr.slice, run_underlying Tryz.underlying9, Instr.sliceBounds, hs, h1 _ (Int.natCast_nonneg _) (by omega), h2 _ (Int.natCast_nonneg _) (by omega)]
/-- The frame of the region that takes a block. -/
def frS (x0 x1 x2 x3 x4 x5 x6 x7 x8 x9 x10 x11 x12 x13 x14 x15 x16 x17 x18 v19 v20 v21 v22 v23 v24 v25 v26 x27 x28 x29 x30 x31 x32 x33 x34 x35 x36 x37 : Value) : Act := { tmps := #[x0, x1, x2, x3, x4, x5, x6, x7, x8, x9, x10, x11, x12, x13, x14, x15, x16, x17, x18, v19, v20, v21, v22, v23, v24, v25, v26, x27, x28, x29, x30, x31, x32, x33, x34, x35, x36, x37], defers := [] }
structure SJ (w w' : World) (g4 g5 : Nat) (S S' : St) (T C : ByteArray) (i : Int) (L : Nat → Bool) (v19 v20 v21 v22 v23 v24 v25 v26 : Value) : Prop where
  o0 : L 0 = true → v19 = .agg (cI S.l)
  o1 : L 1 = true → v20 = .agg (cI ks)
  o2 : L 2 = true → v21 = .string T
  o3 : L 3 = true → v22 = .int .i64 i
  o4 : L 4 = true → v23 = .int .i64 i
  o5 : L 5 = true → v24 = .int .i64 (i + 64)
  o6 : L 6 = true → v25 = .string C
  o7 : L 7 = true → v26 = .agg (cI S'.l)
  k7 : L 7 = true → L 0 = true ∧ L 1 = true ∧ L 6 = true
  k8 : L 8 = true → L 7 = true
  ra : L 8 = false → RS w w' g4 g5 S
  rb : L 8 = true → RS w w' g4 g5 S'
theorem SJ.early {w w' : World} {g4 g5 : Nat} {S S' : St} {T C : ByteArray} {i : Int} {L : Nat → Bool} {v19 v20 v21 v22 v23 v24 v25 v26 : Value} (h : SJ w w' g4 g5 S S' T C i L v19 v20 v21 v22 v23 v24 v25 v26) (h7 : L 7 = false) : RS w w' g4 g5 S := by
  refine h.ra ?_
  cases q : L 8
  · rfl
  · rw [h.k8 q] at h7; cases h7
def SI (w : World) (g4 g5 : Nat) (S S' : St) (T C : ByteArray) (i : Int) (x0 x1 x2 x3 x4 x5 x6 x7 x8 x9 x10 x11 x12 x13 x14 x15 x16 x17 x18 x27 x28 x29 x30 x31 x32 x33 x34 x35 x36 x37 : Value) (L : Nat → Bool) (a : Act) (w' : World) : Prop :=
  ∃ v19 v20 v21 v22 v23 v24 v25 v26, SJ w w' g4 g5 S S' T C i L v19 v20 v21 v22 v23 v24 v25 v26 ∧ a = frS x0 x1 x2 x3 x4 x5 x6 x7 x8 x9 x10 x11 x12 x13 x14 x15 x16 x17 x18 v19 v20 v21 v22 v23 v24 v25 v26 x27 x28 x29 x30 x31 x32 x33 x34 x35 x36 x37
set_option maxHeartbeats 1000000 in
set_option maxRecDepth 8000 in
theorem refsum_any (l : List UInt8) (w : World) (hl : l.length ≤ 140737488351232) :
    Calls Tryz.prog 86 #[.string ⟨l.toArray⟩] w fun e w' => e = .returned (.string ⟨(sum l).toArray⟩) ∧ Below w.heap.size w w' := by
  have hsum := hide (sum_took l)
  have hm := fil_mod l
  have hfl := fil_len' l.length
  have hT : (l ++ fil l.length).length ≤ 140737488351400 := by rw [List.length_append, hfl]; omega
  go_enter Tryz.func86, Tryz.ntmps86
  go_wp2_with fail
  refine (rfilled_any l w hl).mono ?_
  rintro e w1 ⟨rfl, hb1⟩
  generalize l ++ fil l.length = T at *
  clear hfl hl
  go_wp2_with fail
  refine (first_anyK w1).mono ?_
  rintro e w2 ⟨rfl, hb2⟩
  have hr2 := RowK.new w2 (cI z8) 148
  rw [zi8] at hr2
  have HR2 := hide hr2
  clear hr2
  go_wp2_with (refine wpList_store_row rfl 148 (.tmp 4) (.tmp 11) rfl w2.heap.size (cI s0.l) (by rfl) (by rfl) 148 _ (unhide HR2) (sz56 (st_len _)) (by rw [cI_size, st_len]; rfl) (cI_one _) ?_)
  have hr3 := (unhide HR2).setRow (cI s0.l)
  have hb3 : Below w.heap.size w ((w2.alloc (.cells #[.int .i64 0, .int .i64 0, .int .i64 0, .int .i64 0, .int .i64 0, .int .i64 0, .int .i64 0, .int .i64 0] 148)).setRow w2.heap.size (cI s0.l)) :=
    have h12 := hb1.trans (hb2.mono hb1.size)
    below_row (h12.alloc h12.size _) h12.size _
  have h4 : w.heap.size ≤ w2.heap.size := (hb1.trans (hb2.mono hb1.size)).size
  generalize w2.heap.size = g4 at *
  generalize (w2.alloc (.cells #[.int .i64 0, .int .i64 0, .int .i64 0, .int .i64 0, .int .i64 0, .int .i64 0, .int .i64 0, .int .i64 0] 148)).setRow g4 (cI s0.l) = w3 at *
  have HR3 := hide hr3
  clear HR2 hr3 hb1 hb2
  refine (table_any w3).mono ?_
  rintro e w4 ⟨rfl, hb4⟩
  have hr4 := (unhide HR3).below hb4 (unhide HR3).lt
  have hr5 := RowK.new w4 (cI z64) 150
  rw [zi64] at hr5
  have HR5 := hide hr5
  have HR4 := hide hr4
  clear hr5 hr4 HR3
  go_wp2_with (refine wpList_store_row rfl 150 (.tmp 5) (.tmp 12) rfl w4.heap.size (cI ks) (by rfl) (by rfl) 150 _ (unhide HR5) (sz58 ks_len) (by rw [cI_size, ks_len]; rfl) (cI_one _) ?_)
  have hI0 : RS w ((w4.alloc (.cells #[.int .i64 0, .int .i64 0, .int .i64 0, .int .i64 0, .int .i64 0, .int .i64 0, .int .i64 0, .int .i64 0, .int .i64 0, .int .i64 0, .int .i64 0, .int .i64 0, .int .i64 0, .int .i64 0, .int .i64 0, .int .i64 0, .int .i64 0, .int .i64 0, .int .i64 0, .int .i64 0, .int .i64 0, .int .i64 0, .int .i64 0, .int .i64 0, .int .i64 0, .int .i64 0, .int .i64 0, .int .i64 0, .int .i64 0, .int .i64 0, .int .i64 0, .int .i64 0, .int .i64 0, .int .i64 0, .int .i64 0, .int .i64 0, .int .i64 0, .int .i64 0, .int .i64 0, .int .i64 0, .int .i64 0, .int .i64 0, .int .i64 0, .int .i64 0, .int .i64 0, .int .i64 0, .int .i64 0, .int .i64 0, .int .i64 0, .int .i64 0, .int .i64 0, .int .i64 0, .int .i64 0, .int .i64 0, .int .i64 0, .int .i64 0, .int .i64 0, .int .i64 0, .int .i64 0, .int .i64 0, .int .i64 0, .int .i64 0, .int .i64 0, .int .i64 0] 150)).setRow w4.heap.size (cI ks)) g4 w4.heap.size s0 :=
    have hne : g4 ≠ w4.heap.size := Nat.ne_of_lt (unhide HR4).lt
    have hb := hb3.trans (hb4.mono hb3.size)
    ⟨((unhide HR4).alloc _).setRow_other _ _ hne, (unhide HR5).setRow _, below_row (hb.alloc hb.size _) hb.size _, h4, hb.size, fun q => hne q.symm⟩
  have HI0 := hide hI0
  clear HR4 HR5 hI0 hb3 hb4 h4
  generalize (w4.alloc (.cells #[.int .i64 0, .int .i64 0, .int .i64 0, .int .i64 0, .int .i64 0, .int .i64 0, .int .i64 0, .int .i64 0, .int .i64 0, .int .i64 0, .int .i64 0, .int .i64 0, .int .i64 0, .int .i64 0, .int .i64 0, .int .i64 0, .int .i64 0, .int .i64 0, .int .i64 0, .int .i64 0, .int .i64 0, .int .i64 0, .int .i64 0, .int .i64 0, .int .i64 0, .int .i64 0, .int .i64 0, .int .i64 0, .int .i64 0, .int .i64 0, .int .i64 0, .int .i64 0, .int .i64 0, .int .i64 0, .int .i64 0, .int .i64 0, .int .i64 0, .int .i64 0, .int .i64 0, .int .i64 0, .int .i64 0, .int .i64 0, .int .i64 0, .int .i64 0, .int .i64 0, .int .i64 0, .int .i64 0, .int .i64 0, .int .i64 0, .int .i64 0, .int .i64 0, .int .i64 0, .int .i64 0, .int .i64 0, .int .i64 0, .int .i64 0, .int .i64 0, .int .i64 0, .int .i64 0, .int .i64 0, .int .i64 0, .int .i64 0, .int .i64 0, .int .i64 0] 150)).setRow w4.heap.size (cI ks) = w5 at *
  generalize w4.heap.size = g5 at *
  go_loopw [6] (fun i wr => ∃ k : Nat, 64 * k ≤ T.length ∧ i = .int .i64 ((64 * k : Nat) : Int) ∧ RS w wr g4 g5 (took h0 (T.take (64 * k))).s) (fun i _ => T.length - (intOf i).toNat)
  case atStart => exact ⟨0, by omega, rfl, by simpa [took, h0] using unhide HI0⟩
  case round =>
    clear HI0
    obtain ⟨k, hk, rfl, hI⟩ := hrel
    by_cases hlt : 64 * k < T.length
    · have hle : 64 * k + 64 ≤ T.length := by omega
      have hnx := hide (took_s T k hle)
      have hck : ((T.drop (64 * k)).take 64).length = 64 := by simp; omega
      generalize (took h0 (T.take (64 * k))).s = S at *
      have hcall : ∀ w', Calls Tryz.prog 120 #[.agg (cI S.l), .agg (cI ks), .string ((ByteArray.mk T.toArray).extract (64 * k) (64 * k + 64))] w' fun e w'' => e = .returned (.agg (cI (mx S ((T.drop (64 * k)).take 64)).l)) ∧ Below w'.heap.size w' w'' := by
        intro w'
        have := block_any S ((T.drop (64 * k)).take 64) w' hck
        have e : (ByteArray.mk T.toArray).extract (64 * k) (64 * k + 64) = ⟨((T.drop (64 * k)).take 64).toArray⟩ := by
          apply ByteArray.ext
          rw [ByteArray.data_extract]
          simp
        rw [e]
        exact this
      have HI := hide hI
      clear hI
      generalize mx S ((T.drop (64 * k)).take 64) = S' at *
      have hsl : (64 * k : Int) + 64 ≤ (T.length : Int) := by omega
      have hcut : ∀ w', (Instr.slice 9 (.string ⟨T.toArray⟩) (some (.int .i64 (64 * (k : Int)))) (some (.int .i64 (64 * (k : Int) + 64))) none).run Tryz.prog w' = .ok (.string ((ByteArray.mk T.toArray).extract (64 * k) (64 * k + 64))) w' := fun w' => run_cutH T _ _ (64 * k) (64 * k + 64) (by omega) (by omega) (by omega) hle w'
      have HCALL := hide hcall
      clear hcall hck
      generalize hC : (ByteArray.mk T.toArray).extract (64 * k) (64 * k + 64) = C at *
      go_wp2_with fail
      refine region_invH (by kernel_rfl) (SI w g4 g5 S S' ⟨T.toArray⟩ C ((64 * k : Nat) : Int) _ _ _ _ _ _ _ _ _ _ _ _ _ _ _ _ _ _ _ _ _ _ _ _ _ _ _ _ _ _) ?hac (⟨_, _, _, _, _, _, _, _, ⟨(fun q => by cases q), (fun q => by cases q), (fun q => by cases q), (fun q => by cases q), (fun q => by cases q), (fun q => by cases q), (fun q => by cases q), (fun q => by cases q), (fun q => by cases q), (fun q => by cases q), fun _ => (unhide HI).below ((Below.refl _ _).drew), (fun q => by cases q)⟩, rfl⟩) ?hstep ?hend
      case hac =>
        intro i o ho e he hbnd
        match i, ho with
        | 0, ho => obtain rfl := Option.some.inj ho; simp at he
        | 1, ho => obtain rfl := Option.some.inj ho; simp at he
        | 2, ho => obtain rfl := Option.some.inj ho; simp at he
        | 3, ho => obtain rfl := Option.some.inj ho; simp at he
        | 4, ho => obtain rfl := Option.some.inj ho; simp at he
        | 5, ho => obtain rfl := Option.some.inj ho; simp at he; subst he; first | decide | simp [Region.binds] at hbnd
        | 6, ho => obtain rfl := Option.some.inj ho; simp at he; rcases he with rfl | rfl | rfl <;> first | decide | simp [Region.binds] at hbnd
        | 7, ho => obtain rfl := Option.some.inj ho; simp at he; rcases he with rfl | rfl | rfl <;> first | decide | simp [Region.binds] at hbnd
        | 8, ho => obtain rfl := Option.some.inj ho; simp at he; rcases he with rfl | rfl | rfl | rfl | rfl | rfl | rfl | rfl | rfl | rfl <;> first | decide | simp [Region.binds] at hbnd
        | n + 9, ho => simp at ho
      case hstep =>
        clear HI
        intro L a w' i o ho hL hd hI
        obtain ⟨v19, v20, v21, v22, v23, v24, v25, v26, hI, rfl⟩ := hI
        match i, ho, hL with
        | 0, ho, hL =>
          have hop : o.op = .load 148 (.tmp 4) := by obtain rfl := Option.some.inj ho; rfl
          have hds : o.dst = some 19 := by obtain rfl := Option.some.inj ho; rfl
          have hgd : o.guard = none := by obtain rfl := Option.some.inj ho; rfl
          refine op_wp ho hgd ?_
          clear ho hgd
          have HI := hide hI
          have h7 : L 7 = false := by
            cases q : L 7
            · rfl
            · have := hI.k7 q; rw [hL] at this; simp at this
          refine wp_load_row 148 (.tmp 4) hop g4 rfl 148 (cI S.l) (0, 0) _ (hI.early h7).r4 Tryz.underlying148 rfl (sz56 (st_len _)) ?_
          rw [hds]
          exact ⟨_, _, _, _, _, _, _, _, ⟨fun _ => rfl, (unhide HI).o1, (unhide HI).o2, (unhide HI).o3, (unhide HI).o4, (unhide HI).o5, (unhide HI).o6, (unhide HI).o7, fun q => ⟨rfl, ((unhide HI).k7 q).2.1, ((unhide HI).k7 q).2.2⟩, (unhide HI).k8, (unhide HI).ra, (unhide HI).rb⟩, rfl⟩
        | 1, ho, hL =>
          have hop : o.op = .load 150 (.tmp 5) := by obtain rfl := Option.some.inj ho; rfl
          have hds : o.dst = some 20 := by obtain rfl := Option.some.inj ho; rfl
          have hgd : o.guard = none := by obtain rfl := Option.some.inj ho; rfl
          refine op_wp ho hgd ?_
          clear ho hgd
          have HI := hide hI
          have h7 : L 7 = false := by
            cases q : L 7
            · rfl
            · have := hI.k7 q; rw [hL] at this; simp at this
          refine wp_load_row 150 (.tmp 5) hop g5 rfl 150 (cI ks) (0, 0) _ (hI.early h7).r5 Tryz.underlying150 rfl (sz58 ks_len) ?_
          rw [hds]
          exact ⟨_, _, _, _, _, _, _, _, ⟨(unhide HI).o0, fun _ => rfl, (unhide HI).o2, (unhide HI).o3, (unhide HI).o4, (unhide HI).o5, (unhide HI).o6, (unhide HI).o7, fun q => ⟨((unhide HI).k7 q).1, rfl, ((unhide HI).k7 q).2.2⟩, (unhide HI).k8, (unhide HI).ra, (unhide HI).rb⟩, rfl⟩
        | 2, ho, hL =>
          obtain rfl := Option.some.inj ho
          refine op_wp ho rfl ?_
          clear ho
          clear hd
          unfold frS
          have HI := hide hI
          clear hI
          go_wp2_with fail
          exact ⟨_, _, _, _, _, _, _, _, ⟨(unhide HI).o0, (unhide HI).o1, fun _ => rfl, (unhide HI).o3, (unhide HI).o4, (unhide HI).o5, (unhide HI).o6, (unhide HI).o7, (unhide HI).k7, (unhide HI).k8, (unhide HI).ra, (unhide HI).rb⟩, rfl⟩
        | 3, ho, hL =>
          obtain rfl := Option.some.inj ho
          refine op_wp ho rfl ?_
          clear ho
          clear hd
          unfold frS
          have HI := hide hI
          clear hI
          go_wp2_with fail
          exact ⟨_, _, _, _, _, _, _, _, ⟨(unhide HI).o0, (unhide HI).o1, (unhide HI).o2, fun _ => rfl, (unhide HI).o4, (unhide HI).o5, (unhide HI).o6, (unhide HI).o7, (unhide HI).k7, (unhide HI).k8, (unhide HI).ra, (unhide HI).rb⟩, rfl⟩
        | 4, ho, hL =>
          obtain rfl := Option.some.inj ho
          refine op_wp ho rfl ?_
          clear ho
          clear hd
          unfold frS
          have HI := hide hI
          clear hI
          go_wp2_with fail
          exact ⟨_, _, _, _, _, _, _, _, ⟨(unhide HI).o0, (unhide HI).o1, (unhide HI).o2, (unhide HI).o3, fun _ => rfl, (unhide HI).o5, (unhide HI).o6, (unhide HI).o7, (unhide HI).k7, (unhide HI).k8, (unhide HI).ra, (unhide HI).rb⟩, rfl⟩
        | 5, ho, hL =>
          obtain rfl := Option.some.inj ho
          refine op_wp ho rfl ?_
          clear ho
          have e4 := hI.o4 (hd ⟨4, .data⟩ (by simp) rfl)
          subst e4
          clear hd
          unfold frS
          have HI := hide hI
          clear hI
          go_wp2_with fail
          exact ⟨_, _, _, _, _, _, _, _, ⟨(unhide HI).o0, (unhide HI).o1, (unhide HI).o2, (unhide HI).o3, (unhide HI).o4, fun _ => rfl, (unhide HI).o6, (unhide HI).o7, (unhide HI).k7, (unhide HI).k8, (unhide HI).ra, (unhide HI).rb⟩, rfl⟩
        | 6, ho, hL =>
          obtain rfl := Option.some.inj ho
          refine op_wp ho rfl ?_
          clear ho
          have e2 := hI.o2 (hd ⟨2, .data⟩ (by simp) rfl)
          subst e2
          have e3 := hI.o3 (hd ⟨3, .data⟩ (by simp) rfl)
          subst e3
          have e5 := hI.o5 (hd ⟨5, .data⟩ (by simp) rfl)
          subst e5
          clear hd
          unfold frS
          have HI := hide hI
          clear hI
          go_wp2_with fail
          exact ⟨_, _, _, _, _, _, _, _, ⟨(unhide HI).o0, (unhide HI).o1, (unhide HI).o2, (unhide HI).o3, (unhide HI).o4, (unhide HI).o5, fun _ => rfl, (unhide HI).o7, fun q => ⟨((unhide HI).k7 q).1, ((unhide HI).k7 q).2.1, rfl⟩, (unhide HI).k8, (unhide HI).ra, (unhide HI).rb⟩, rfl⟩
        | 7, ho, hL =>
          obtain rfl := Option.some.inj ho
          refine op_wp ho rfl ?_
          clear ho
          have q0 := hd ⟨0, .data⟩ (by simp) rfl
          have q1 := hd ⟨1, .data⟩ (by simp) rfl
          have q6 := hd ⟨6, .data⟩ (by simp) rfl
          have e0 := hI.o0 q0
          have e1 := hI.o1 q1
          have e6 := hI.o6 q6
          subst e0 e1 e6
          clear hd
          unfold frS
          have HI := hide hI
          have Q0 := hide q0
          have Q1 := hide q1
          have Q6 := hide q6
          clear hI q0 q1 q6
          go_wp2_with fail
          refine (unhide HCALL w').mono ?_
          rintro e wb ⟨rfl, hbb⟩
          exact ⟨_, _, _, _, _, _, _, _, ⟨(unhide HI).o0, (unhide HI).o1, (unhide HI).o2, (unhide HI).o3, (unhide HI).o4, (unhide HI).o5, (unhide HI).o6, fun _ => rfl, fun _ => ⟨unhide Q0, unhide Q1, unhide Q6⟩, fun _ => rfl, fun q => ((unhide HI).ra q).below hbb, fun q => ((unhide HI).rb q).below hbb⟩, rfl⟩
        | 8, ho, hL =>
          have hop : o.op = .store 148 (.tmp 4) (.tmp 26) := by obtain rfl := Option.some.inj ho; rfl
          have hds : o.dst = none := by obtain rfl := Option.some.inj ho; rfl
          have hgd : o.guard = none := by obtain rfl := Option.some.inj ho; rfl
          have q7 : L 7 = true := hd ⟨7, .data⟩ (by obtain rfl := Option.some.inj ho; simp) rfl
          refine op_wp ho hgd ?_
          clear ho hgd hd
          have e7 := hI.o7 q7
          subst e7
          have HI := hide hI
          refine wp_store_row 148 (.tmp 4) (.tmp 26) hop g4 (cI S'.l) rfl rfl 148 (cI S.l) (hI.ra hL).r4 (sz56 (st_len _)) (by rw [cI_size, cI_size, st_len, st_len]) (cI_one _) ?_
          rw [hds]
          exact ⟨_, _, _, _, _, _, _, _, ⟨(unhide HI).o0, (unhide HI).o1, (unhide HI).o2, (unhide HI).o3, (unhide HI).o4, (unhide HI).o5, (unhide HI).o6, (unhide HI).o7, (unhide HI).k7, fun _ => q7, fun q => (Bool.noConfusion q), fun _ => ((unhide HI).ra hL).store S'⟩, rfl⟩
        | n + 9, ho, hL => simp at ho
      case hend =>
        intro L a w' hL hI
        obtain ⟨v19, v20, v21, v22, v23, v24, v25, v26, hI, rfl⟩ := hI
        have hR := hI.rb (hL 8 (by decide))
        have HR := hide hR
        clear hL hI HI hR hcut HCALL
        unfold frS
        go_wp2
        go_roundw
        case rel =>
          refine ⟨k + 1, by omega, by go_num, ?_⟩
          rw [show 64 * (k + 1) = 64 * k + 64 by omega, unhide hnx]
          exact unhide HR
        case measure => simp [intOf]; omega
    · have hkT : 64 * k = T.length := by omega
      have hd : decide ((64 * k : Int) < (T.length : Int)) = false := by simp; omega
      have hd' : decide (64 * k < T.length) = false := by simp; omega
      rw [hkT, List.take_of_length_le (Nat.le_refl _)] at hI
      have HI := hide hI
      have HS := hide (unhide hsum)
      generalize (took h0 T).s = S at *
      clear hI hlt hkT hm hsum hk
      go_wp2
      go_loopw [7, 8] (fun o i w2 => ∃ j : Nat, j ≤ 8 ∧ i = .int .i64 j ∧ o = .string ⟨(digk S j).toArray⟩ ∧ RS w w2 g4 g5 S) (fun _ i _ => 8 - (intOf i).toNat)
      case atStart => exact ⟨0, by omega, rfl, rfl, unhide HI⟩
      case round =>
        clear HI
        obtain ⟨j, hj, rfl, rfl, hI⟩ := hrel
        by_cases hlj : j < 8
        · have i0 : (0 : Int) ≤ (j : Int) := by omega
          have i1 : (j : Int) < 8 := by omega
          have hcell : wr.cell? ⟨g4, j, none⟩ = some (.int .i64 (u (S.l.getD j 0))) := by
            rw [hI.r4.cell, cI_get _ _ (by rw [st_len]; exact hlj)]
          have hnxt := hide (digk_next S j hlj)
          have hlen := digk_len S j hj
          generalize S.l.getD j 0 = x at *
          have HI := hide hI
          clear hI
          go_wp2_with fail
          refine (big_int (u x) 4 x.toNat 4 (u_toNat x) (by omega) _ (by have := x.toNat_lt; omega) (by omega) (by omega)).mono ?_
          rintro e w3 ⟨rfl, hb3⟩
          have h3 := hide ((unhide HI).below hb3)
          have e4 : (nb x.toNat 4).length = 4 := by simp [nb]
          clear HI hb3 hcell
          go_wp2
          go_roundw
          case rel =>
            refine ⟨_, _, _, _, _, _, _, _, _, _, _, _, ?_, rfl⟩
            refine ⟨j + 1, by omega, by go_num, ?_, unhide h3⟩
            rw [unhide hnxt, ← bytes_append]
          case measure => simp [intOf]; omega
        · have hj8 : j = 8 := by omega
          have hd8 : decide ((j : Int) < 8) = false := by simp; omega
          have hS : digk S j = sum l := by rw [hj8, digk_all, unhide HS]
          rw [hS]
          have hbe := hI.be
          clear hI hj8 hS HS hlj
          go_wp2
          go_ret
          exact ⟨rfl, hbe⟩
end Go.Proofs.YtmjaobddgaglhaaGreatDoor
