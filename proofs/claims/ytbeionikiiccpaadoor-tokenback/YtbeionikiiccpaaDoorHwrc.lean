import Derived.Test.YtbeionikiiccpaaDoorZhhas
namespace Go.Proofs.YtbeionikiiccpaaDoor
open Go.RowKit
open Sha
set_option maxRecDepth 8000
theorem ext_eq (R : List UInt8) (m : Nat) : (ByteArray.mk R.toArray).extract m R.length = ⟨(R.drop m).toArray⟩ := by
  apply ByteArray.ext
  rw [ByteArray.data_extract]
  apply Array.toList_inj.1
  simp only [Array.toList_extract, List.extract]
  exact List.take_of_length_le (by simp)
theorem wr_next (h : Ha) (s : List UInt8) (k : Nat) (H : Ha) (R T : List UInt8) (m : Nat) (hH : took h (s.take k) = H) (hR : s.drop k = R) (ht : H.t.length = 64) (h1 : H.n % 64 + m ≤ 64) (h2 : 0 < m) (h3 : m ≤ R.length) (hT : spl H.t (H.n % 64) (R.take m) = T) :
    took h (s.take (k + m)) = if (H.n + m) % 64 = 0 then ⟨mx H.s T, T, H.n + m⟩ else ⟨H.s, T, H.n + m⟩ := by
  have hl : (R.take m).length = m := by simp; omega
  have e : s.take (k + m) = s.take k ++ R.take m := by rw [List.take_add, hR]
  rw [e, took_append, hH, took_chunk (R.take m) H ht (by omega) (by intro q; rw [q] at hl; simp at hl; omega), hl, hT]
set_option maxHeartbeats 1000000 in
theorem write_any (h : Ha) (b : Nat) (s : List UInt8) (w : World) (hr : Row w b (hc h) 77) (ht : h.t.length = 64) (hn : h.n + s.length < 1152921504606846976) :
    Calls Tryd.prog 26 #[.pointer (some ⟨b, 0, none⟩), .string ⟨s.toArray⟩] w fun e w' => e = .returned (.tuple #[]) ∧ Row w' b (hc (took h s)) 77 ∧ OnlyH b w w' := by
  go_enter Tryd.func26, Tryd.ntmps26
  go_wp2
  go_loopw [1] (fun v wr => ∃ k : Nat, k ≤ s.length ∧ v = .string ⟨(s.drop k).toArray⟩ ∧ Row wr b (hc (took h (s.take k))) 77 ∧ OnlyH b w wr) (fun v _ => strLen v)
  case atStart => exact ⟨0, by omega, rfl, hr, OnlyH.refl _ _⟩
  case round =>
    obtain ⟨k, hk, rfl, hrow, hon⟩ := hrel
    by_cases hlt : k < s.length
    · have hHt : (took h (s.take k)).t.length = 64 := by rw [took_t]; exact ht
      have hHn : (took h (s.take k)).n = h.n + k := by rw [took_n]; simp; omega
      generalize hH : took h (s.take k) = H at *
      generalize hR : s.drop k = R at *
      have hRl : R.length = s.length - k := by rw [← hR]; simp
      have HH := hide hH
      have HR := hide hR
      clear hH hR
      have hRp : 0 < R.length := by omega
      have c72 : wr.cell? ⟨b, 72, none⟩ = some (.int .i64 H.n) := by rw [hrow.cell]; exact hc_n H hHt
      have hHn2 : H.n < 1152921504606846976 := by omega
      obtain ⟨r, hre⟩ : ∃ r : Nat, r = H.n % 64 := ⟨_, rfl⟩
      have hr64 : r < 64 := by omega
      have hrr : (H.n : Int) % 64 = (r : Int) := by omega
      have hsl : ∀ w, (Instr.sliceAt 75 (.pointer (some ⟨b, 8, none⟩)) (some (.int .i64 r)) none none).run Tryd.prog w = .ok (.slice (some ⟨b, 8 + r, none⟩) (64 - r) (64 - r)) w := fun w => run_tail w b r hr64
      have hcp := run_copy_str wr.drew 3 b (8 + r) (64 - r) (64 - r) (hc H) 77 R hrow.drew (by rw [hc_size H hHt]; omega)
      rw [hc_copy H r _ hHt (by simp; omega)] at hcp
      generalize hm : min R.length (64 - r) = m at hcp
      have HM := hide hm
      have HRE := hide hre
      have HHn := hide hHn
      clear hm hre
      have HRl := hide hRl
      have HRow := hide hrow
      have HHt := hide hHt
      clear hHn hRl hrow hHt
      have hm64 : (m : Int) ≤ 64 := by have := unhide HM; omega
      have hm1 : (m : Int) ≤ R.length := by have := unhide HM; omega
      go_wp2
      go_region
      have hrow1 : Row (wr.drew.setRow b (hc { s := H.s, t := spl H.t r (List.take m R), n := H.n })) b (hc { s := H.s, t := spl H.t r (List.take m R), n := H.n }) 77 := (unhide HRow).drew.setRow _
      have hon1 : OnlyH b w (wr.drew.setRow b (hc { s := H.s, t := spl H.t r (List.take m R), n := H.n })) := (hon.drewN 1).trans (OnlyH.setRow _ _)
      have hT : (spl H.t r (List.take m R)).length = 64 := by
        rw [spl_len _ _ _ (by have := unhide HM; have := unhide HHt; simp; omega)]; exact unhide HHt
      clear hcp c72 hon hsl
      generalize wr.drew.setRow b (hc { s := H.s, t := spl H.t r (List.take m R), n := H.n }) = w1 at *
      generalize hTT : spl H.t r (List.take m R) = T at *
      have HTT := hide hTT
      clear hTT
      have c72 : w1.cell? ⟨b, 72, none⟩ = some (.int .i64 H.n) := by rw [hrow1.cell]; exact hc_n _ hT
      have z72 : w1.frozen? ⟨b, 72, none⟩ = false := hrow1.frozen 72
      have HRow1 := hide hrow1
      clear hrow1
      by_cases h0 : (H.n + m) % 64 = 0
      · have hd0 : (((H.n : Int) + (m : Int)) % 64 == 0) = true := by rw [beq_iff_eq]; omega
        have H0 := hide h0
        clear h0
        go_wp2
        have hrow2 : Row (w1.setCell ⟨b, 72, none⟩ (.int .i64 ((H.n : Int) + (m : Int)))) b (hc ⟨H.s, T, H.n + m⟩) 77 := by
          have := (unhide HRow1).set 72 (.int .i64 ((H.n + m : Nat) : Int))
          rw [hc_setn _ _ hT] at this
          exact this
        have hon2 : OnlyH b w (w1.setCell ⟨b, 72, none⟩ (.int .i64 ((H.n : Int) + (m : Int)))) := hon1.trans (OnlyH.setCell _ _ _)
        clear c72 z72 HRow1 hon1
        generalize w1.setCell ⟨b, 72, none⟩ (.int .i64 ((H.n : Int) + (m : Int))) = w2 at *
        have hu2 := hide hrow2
        have ho2 := hide hon2
        clear hrow2 hon2
        refine region_invH (by kernel_rfl) (MX5 w b ⟨H.s, T, H.n + m⟩ _ _ _ _ _ _ _ _ _ _ _ _ _ _ _ _ _ _ _ _ _ _ _ _ _ _ _ _ _ _ _ _ _) ?hac (⟨_, _, _, _, _, _, _, _, _, _, _, _, ⟨(fun q => by cases q), (fun q => by cases q), (fun q => by cases q), (fun q => by cases q), (fun q => by cases q), (fun q => by cases q), (fun q => by cases q), (fun q => by cases q), (fun q => by cases q), (fun q => by cases q), (fun q => by cases q), (fun q => by cases q), (unhide hu2).drew, (unhide ho2).drewN 1, (fun q => by cases q), (fun q => by cases q)⟩, rfl⟩) ?hstep ?hend
        case hac =>
          intro i o ho e he hbnd
          match i, ho with
          | 0, ho => obtain rfl := Option.some.inj ho; first | (simp at he; done) | (simp at he; subst he; decide) | (simp at he; rcases he with rfl | rfl <;> first | decide | simp [Region.binds] at hbnd) | (simp at he; rcases he with rfl | rfl | rfl <;> first | decide | simp [Region.binds] at hbnd) | (simp at he; rcases he with rfl | rfl | rfl | rfl | rfl | rfl | rfl | rfl | rfl | rfl | rfl | rfl | rfl | rfl <;> first | decide | simp [Region.binds] at hbnd) | (simp at he; rcases he with rfl | rfl | rfl | rfl | rfl | rfl | rfl | rfl | rfl | rfl | rfl | rfl | rfl | rfl | rfl <;> first | decide | simp [Region.binds] at hbnd)
          | 1, ho => obtain rfl := Option.some.inj ho; first | (simp at he; done) | (simp at he; subst he; decide) | (simp at he; rcases he with rfl | rfl <;> first | decide | simp [Region.binds] at hbnd) | (simp at he; rcases he with rfl | rfl | rfl <;> first | decide | simp [Region.binds] at hbnd) | (simp at he; rcases he with rfl | rfl | rfl | rfl | rfl | rfl | rfl | rfl | rfl | rfl | rfl | rfl | rfl | rfl <;> first | decide | simp [Region.binds] at hbnd) | (simp at he; rcases he with rfl | rfl | rfl | rfl | rfl | rfl | rfl | rfl | rfl | rfl | rfl | rfl | rfl | rfl | rfl <;> first | decide | simp [Region.binds] at hbnd)
          | 2, ho => obtain rfl := Option.some.inj ho; first | (simp at he; done) | (simp at he; subst he; decide) | (simp at he; rcases he with rfl | rfl <;> first | decide | simp [Region.binds] at hbnd) | (simp at he; rcases he with rfl | rfl | rfl <;> first | decide | simp [Region.binds] at hbnd) | (simp at he; rcases he with rfl | rfl | rfl | rfl | rfl | rfl | rfl | rfl | rfl | rfl | rfl | rfl | rfl | rfl <;> first | decide | simp [Region.binds] at hbnd) | (simp at he; rcases he with rfl | rfl | rfl | rfl | rfl | rfl | rfl | rfl | rfl | rfl | rfl | rfl | rfl | rfl | rfl <;> first | decide | simp [Region.binds] at hbnd)
          | 3, ho => obtain rfl := Option.some.inj ho; first | (simp at he; done) | (simp at he; subst he; decide) | (simp at he; rcases he with rfl | rfl <;> first | decide | simp [Region.binds] at hbnd) | (simp at he; rcases he with rfl | rfl | rfl <;> first | decide | simp [Region.binds] at hbnd) | (simp at he; rcases he with rfl | rfl | rfl | rfl | rfl | rfl | rfl | rfl | rfl | rfl | rfl | rfl | rfl | rfl <;> first | decide | simp [Region.binds] at hbnd) | (simp at he; rcases he with rfl | rfl | rfl | rfl | rfl | rfl | rfl | rfl | rfl | rfl | rfl | rfl | rfl | rfl | rfl <;> first | decide | simp [Region.binds] at hbnd)
          | 4, ho => obtain rfl := Option.some.inj ho; first | (simp at he; done) | (simp at he; subst he; decide) | (simp at he; rcases he with rfl | rfl <;> first | decide | simp [Region.binds] at hbnd) | (simp at he; rcases he with rfl | rfl | rfl <;> first | decide | simp [Region.binds] at hbnd) | (simp at he; rcases he with rfl | rfl | rfl | rfl | rfl | rfl | rfl | rfl | rfl | rfl | rfl | rfl | rfl | rfl <;> first | decide | simp [Region.binds] at hbnd) | (simp at he; rcases he with rfl | rfl | rfl | rfl | rfl | rfl | rfl | rfl | rfl | rfl | rfl | rfl | rfl | rfl | rfl <;> first | decide | simp [Region.binds] at hbnd)
          | 5, ho => obtain rfl := Option.some.inj ho; first | (simp at he; done) | (simp at he; subst he; decide) | (simp at he; rcases he with rfl | rfl <;> first | decide | simp [Region.binds] at hbnd) | (simp at he; rcases he with rfl | rfl | rfl <;> first | decide | simp [Region.binds] at hbnd) | (simp at he; rcases he with rfl | rfl | rfl | rfl | rfl | rfl | rfl | rfl | rfl | rfl | rfl | rfl | rfl | rfl <;> first | decide | simp [Region.binds] at hbnd) | (simp at he; rcases he with rfl | rfl | rfl | rfl | rfl | rfl | rfl | rfl | rfl | rfl | rfl | rfl | rfl | rfl | rfl <;> first | decide | simp [Region.binds] at hbnd)
          | 6, ho => obtain rfl := Option.some.inj ho; first | (simp at he; done) | (simp at he; subst he; decide) | (simp at he; rcases he with rfl | rfl <;> first | decide | simp [Region.binds] at hbnd) | (simp at he; rcases he with rfl | rfl | rfl <;> first | decide | simp [Region.binds] at hbnd) | (simp at he; rcases he with rfl | rfl | rfl | rfl | rfl | rfl | rfl | rfl | rfl | rfl | rfl | rfl | rfl | rfl <;> first | decide | simp [Region.binds] at hbnd) | (simp at he; rcases he with rfl | rfl | rfl | rfl | rfl | rfl | rfl | rfl | rfl | rfl | rfl | rfl | rfl | rfl | rfl <;> first | decide | simp [Region.binds] at hbnd)
          | 7, ho => obtain rfl := Option.some.inj ho; first | (simp at he; done) | (simp at he; subst he; decide) | (simp at he; rcases he with rfl | rfl <;> first | decide | simp [Region.binds] at hbnd) | (simp at he; rcases he with rfl | rfl | rfl <;> first | decide | simp [Region.binds] at hbnd) | (simp at he; rcases he with rfl | rfl | rfl | rfl | rfl | rfl | rfl | rfl | rfl | rfl | rfl | rfl | rfl | rfl <;> first | decide | simp [Region.binds] at hbnd) | (simp at he; rcases he with rfl | rfl | rfl | rfl | rfl | rfl | rfl | rfl | rfl | rfl | rfl | rfl | rfl | rfl | rfl <;> first | decide | simp [Region.binds] at hbnd)
          | 8, ho => obtain rfl := Option.some.inj ho; first | (simp at he; done) | (simp at he; subst he; decide) | (simp at he; rcases he with rfl | rfl <;> first | decide | simp [Region.binds] at hbnd) | (simp at he; rcases he with rfl | rfl | rfl <;> first | decide | simp [Region.binds] at hbnd) | (simp at he; rcases he with rfl | rfl | rfl | rfl | rfl | rfl | rfl | rfl | rfl | rfl | rfl | rfl | rfl | rfl <;> first | decide | simp [Region.binds] at hbnd) | (simp at he; rcases he with rfl | rfl | rfl | rfl | rfl | rfl | rfl | rfl | rfl | rfl | rfl | rfl | rfl | rfl | rfl <;> first | decide | simp [Region.binds] at hbnd)
          | 9, ho => obtain rfl := Option.some.inj ho; first | (simp at he; done) | (simp at he; subst he; decide) | (simp at he; rcases he with rfl | rfl <;> first | decide | simp [Region.binds] at hbnd) | (simp at he; rcases he with rfl | rfl | rfl <;> first | decide | simp [Region.binds] at hbnd) | (simp at he; rcases he with rfl | rfl | rfl | rfl | rfl | rfl | rfl | rfl | rfl | rfl | rfl | rfl | rfl | rfl <;> first | decide | simp [Region.binds] at hbnd) | (simp at he; rcases he with rfl | rfl | rfl | rfl | rfl | rfl | rfl | rfl | rfl | rfl | rfl | rfl | rfl | rfl | rfl <;> first | decide | simp [Region.binds] at hbnd)
          | 10, ho => obtain rfl := Option.some.inj ho; first | (simp at he; done) | (simp at he; subst he; decide) | (simp at he; rcases he with rfl | rfl <;> first | decide | simp [Region.binds] at hbnd) | (simp at he; rcases he with rfl | rfl | rfl <;> first | decide | simp [Region.binds] at hbnd) | (simp at he; rcases he with rfl | rfl | rfl | rfl | rfl | rfl | rfl | rfl | rfl | rfl | rfl | rfl | rfl | rfl <;> first | decide | simp [Region.binds] at hbnd) | (simp at he; rcases he with rfl | rfl | rfl | rfl | rfl | rfl | rfl | rfl | rfl | rfl | rfl | rfl | rfl | rfl | rfl <;> first | decide | simp [Region.binds] at hbnd)
          | 11, ho => obtain rfl := Option.some.inj ho; first | (simp at he; done) | (simp at he; subst he; decide) | (simp at he; rcases he with rfl | rfl <;> first | decide | simp [Region.binds] at hbnd) | (simp at he; rcases he with rfl | rfl | rfl <;> first | decide | simp [Region.binds] at hbnd) | (simp at he; rcases he with rfl | rfl | rfl | rfl | rfl | rfl | rfl | rfl | rfl | rfl | rfl | rfl | rfl | rfl <;> first | decide | simp [Region.binds] at hbnd) | (simp at he; rcases he with rfl | rfl | rfl | rfl | rfl | rfl | rfl | rfl | rfl | rfl | rfl | rfl | rfl | rfl | rfl <;> first | decide | simp [Region.binds] at hbnd)
          | 12, ho => obtain rfl := Option.some.inj ho; first | (simp at he; done) | (simp at he; subst he; decide) | (simp at he; rcases he with rfl | rfl <;> first | decide | simp [Region.binds] at hbnd) | (simp at he; rcases he with rfl | rfl | rfl <;> first | decide | simp [Region.binds] at hbnd) | (simp at he; rcases he with rfl | rfl | rfl | rfl | rfl | rfl | rfl | rfl | rfl | rfl | rfl | rfl | rfl | rfl <;> first | decide | simp [Region.binds] at hbnd) | (simp at he; rcases he with rfl | rfl | rfl | rfl | rfl | rfl | rfl | rfl | rfl | rfl | rfl | rfl | rfl | rfl | rfl <;> first | decide | simp [Region.binds] at hbnd)
          | n + 13, ho => simp at ho
        case hstep =>
          clear hu2 ho2
          intro L a w' i o ho hL hd hI
          obtain ⟨v36, v37, v38, v39, v40, v41, v42, v43, v44, v45, v46, v47, hI, rfl⟩ := hI
          match i, ho, hL with
          | 0, ho, hL =>
            obtain rfl := Option.some.inj ho
            refine op_wp ho rfl ?_
            clear ho
            clear hd
            unfold fr5
            have HI := hide hI
            clear hI
            go_wp2_with fail
            exact ⟨_, _, _, _, _, _, _, _, _, _, _, _, (unhide HI).l0, rfl⟩
          | 1, ho, hL =>
            obtain rfl := Option.some.inj ho
            refine op_wp ho rfl ?_
            clear ho
            clear hd
            unfold fr5
            have HI := hide hI
            clear hI
            go_wp2_with fail
            exact ⟨_, _, _, _, _, _, _, _, _, _, _, _, (unhide HI).l1, rfl⟩
          | 2, ho, hL =>
            obtain rfl := Option.some.inj ho
            refine op_wp ho rfl ?_
            clear ho
            have e1 := hI.o1 (hd ⟨1, .data⟩ (by simp) rfl)
            subst e1
            clear hd
            unfold fr5
            have HI := hide hI
            clear hI
            go_wp2_with fail
            exact ⟨_, _, _, _, _, _, _, _, _, _, _, _, (unhide HI).l2, rfl⟩
          | 3, ho, hL =>
            obtain rfl := Option.some.inj ho
            refine op_wp ho rfl ?_
            clear ho
            have e2 := hI.o2 (hd ⟨2, .data⟩ (by simp) rfl)
            subst e2
            clear hd
            unfold fr5
            have HI := hide hI
            clear hI
            go_wp2_with fail
            exact ⟨_, _, _, _, _, _, _, _, _, _, _, _, (unhide HI).l3, rfl⟩
          | 4, ho, hL =>
            have hop : o.op = .load 72 (.tmp 39) := by obtain rfl := Option.some.inj ho; rfl
            have hds : o.dst = some 40 := by obtain rfl := Option.some.inj ho; rfl
            have hgd : o.guard = none := by obtain rfl := Option.some.inj ho; rfl
            have e3 := hI.o3 (hd ⟨3, .data⟩ (by obtain rfl := Option.some.inj ho; simp) rfl)
            subst e3
            refine op_wp ho hgd ?_
            clear ho hgd
            refine wp_load_mid 72 (.tmp 39) hop b 0 rfl (H.s.l.map U) _ (HR5.s (h := ⟨H.s, T, H.n + m⟩) ⟨hI.row0 (hI.no4 hL)⟩) Tryd.underlying72 rfl info72 ?_
            rw [hds]
            exact ⟨_, _, _, _, _, _, _, _, _, _, _, _, hI.l4, rfl⟩
          | 5, ho, hL =>
            obtain rfl := Option.some.inj ho
            refine op_wp ho rfl ?_
            clear ho
            clear hd
            unfold fr5
            have HI := hide hI
            clear hI
            go_wp2_with fail
            exact ⟨_, _, _, _, _, _, _, _, _, _, _, _, (unhide HI).l5, rfl⟩
          | 6, ho, hL =>
            obtain rfl := Option.some.inj ho
            refine op_wp ho rfl ?_
            clear ho
            have e5 := hI.o5 (hd ⟨5, .data⟩ (by simp) rfl)
            subst e5
            clear hd
            unfold fr5
            have HI := hide hI
            clear hI
            go_wp2_with fail
            exact ⟨_, _, _, _, _, _, _, _, _, _, _, _, (unhide HI).l6, rfl⟩
          | 7, ho, hL =>
            obtain rfl := Option.some.inj ho
            refine op_wp ho rfl ?_
            clear ho
            have e6 := hI.o6 (hd ⟨6, .data⟩ (by simp) rfl)
            subst e6
            clear hd
            unfold fr5
            have HI := hide hI
            clear hI
            go_wp2_with fail
            exact ⟨_, _, _, _, _, _, _, _, _, _, _, _, (unhide HI).l7, rfl⟩
          | 8, ho, hL =>
            have hop : o.op = .load 75 (.tmp 43) := by obtain rfl := Option.some.inj ho; rfl
            have hds : o.dst = some 44 := by obtain rfl := Option.some.inj ho; rfl
            have hgd : o.guard = none := by obtain rfl := Option.some.inj ho; rfl
            have e7 := hI.o7 (hd ⟨7, .data⟩ (by obtain rfl := Option.some.inj ho; simp) rfl)
            subst e7
            refine op_wp ho hgd ?_
            clear ho hgd
            refine wp_load_mid 75 (.tmp 43) hop b 8 rfl (T.map B) _ (HR5.t (h := ⟨H.s, T, H.n + m⟩) ⟨hI.row0 (hI.no8 hL)⟩) Tryd.underlying75 rfl (by rw [List.length_map, hT]; exact info75) ?_
            rw [hds]
            exact ⟨_, _, _, _, _, _, _, _, _, _, _, _, hI.l8, rfl⟩
          | 9, ho, hL =>
            obtain rfl := Option.some.inj ho
            refine op_wp ho rfl ?_
            clear ho
            have h4 : L 4 = true := hd ⟨4, .data⟩ (by simp) rfl
            have h8 : L 8 = true := hd ⟨8, .data⟩ (by simp) rfl
            have e4 := hI.o4 h4
            have e8 := hI.o8 h8
            subst e4 e8
            clear hd
            unfold fr5
            have HI := hide hI
            have HK := hide (And.intro h4 h8)
            clear hI h4 h8
            go_wp2_with fail
            refine (mix_any H.s T w' hT).mono ?_
            rintro e w3 ⟨rfl, hbl⟩
            exact ⟨_, _, _, _, _, _, _, _, _, _, _, _, ((unhide HI).below hbl).l9 (unhide HK), rfl⟩
          | 10, ho, hL =>
            obtain rfl := Option.some.inj ho
            refine op_wp ho rfl ?_
            clear ho
            have e0 := hI.o0 (hd ⟨0, .data⟩ (by simp) rfl)
            subst e0
            clear hd
            unfold fr5
            have HI := hide hI
            clear hI
            go_wp2_with fail
            exact ⟨_, _, _, _, _, _, _, _, _, _, _, _, (unhide HI).l10, rfl⟩
          | 11, ho, hL =>
            obtain rfl := Option.some.inj ho
            refine op_wp ho rfl ?_
            clear ho
            have e10 := hI.o10 (hd ⟨10, .data⟩ (by simp) rfl)
            subst e10
            clear hd
            unfold fr5
            have HI := hide hI
            clear hI
            go_wp2_with fail
            exact ⟨_, _, _, _, _, _, _, _, _, _, _, _, (unhide HI).l11, rfl⟩
          | 12, ho, hL =>
            have hop : o.op = .store 72 (.tmp 47) (.tmp 45) := by obtain rfl := Option.some.inj ho; rfl
            have hds : o.dst = none := by obtain rfl := Option.some.inj ho; rfl
            have hgd : o.guard = none := by obtain rfl := Option.some.inj ho; rfl
            have h9 : L 9 = true := hd ⟨9, .data⟩ (by obtain rfl := Option.some.inj ho; simp) rfl
            have e9 := hI.o9 h9
            subst e9
            have e11 := hI.o11 (hd ⟨11, .data⟩ (by obtain rfl := Option.some.inj ho; simp) rfl)
            subst e11
            refine op_wp ho hgd ?_
            clear ho hgd
            have hrow0 := hI.row0 hL
            refine wp_store_at 72 (.tmp 47) (.tmp 45) hop b 0 (cU (mx H.s T).l) rfl rfl 77 (hc ⟨H.s, T, H.n + m⟩) hrow0 (sz65 _) (by rw [hc_size _ hT, cU_size]; show 0 + 8 ≤ 73; omega) (cU_one _) ?_
            rw [hds]
            have e := hc_sets ⟨H.s, T, H.n + m⟩ (mx H.s T)
            have e' : ((hc ⟨H.s, T, H.n + m⟩).toList.take 0 ++ (cU (mx H.s T).l).toList ++ (hc ⟨H.s, T, H.n + m⟩).toList.drop (0 + (cU (mx H.s T).l).toList.length)).toArray = hc ⟨mx H.s T, T, H.n + m⟩ := by
              have := congrArg List.toArray e
              simpa [cU] using this
            rw [e']
            exact ⟨_, _, _, _, _, _, _, _, _, _, _, _, hI.l12 hL h9, rfl⟩
          | n + 13, ho, hL => simp at ho
        case hend =>
          intro L a w' hL hI
          obtain ⟨v36, v37, v38, v39, v40, v41, v42, v43, v44, v45, v46, v47, hI, rfl⟩ := hI
          have hrow := hI.row
          rw [hL 12 (by decide)] at hrow
          have hon := hI.on
          have hrow3 : Row w' b (hc ⟨mx H.s T, T, H.n + m⟩) 77 := hrow
          clear hrow hI hL hu2 ho2
          have HR3 := hide hrow3
          clear hrow3
          unfold fr5
          go_wp2
          go_roundw
          case rel =>
            have hnx := wr_next h s k H R T m (unhide HH) (unhide HR) (unhide HHt) (by have := unhide HM; have := unhide HRE; omega) (by have := unhide HM; omega) (by have := unhide HM; omega) (by have := unhide HTT; rw [unhide HRE] at this; exact this)
            rw [if_pos (unhide H0)] at hnx
            refine ⟨k + m, by have := unhide HRl; omega, ?_, by rw [hnx]; exact unhide HR3, hon⟩
            rw [ext_eq, ← unhide HR, List.drop_drop]
          case measure =>
            rw [ext_eq]
            have := unhide HM
            simp [strLen, ByteArray.size]
            omega
      · have hd0 : (((H.n : Int) + (m : Int)) % 64 == 0) = false := by rw [beq_eq_false_iff_ne]; omega
        have H0 := hide h0
        clear h0
        go_wp2
        go_roundw
        case rel =>
          have hnx := wr_next h s k H R T m (unhide HH) (unhide HR) (unhide HHt) (by have := unhide HM; have := unhide HRE; omega) (by have := unhide HM; omega) (by have := unhide HM; omega) (by have := unhide HTT; rw [unhide HRE] at this; exact this)
          rw [if_neg (unhide H0)] at hnx
          have hrow2 := (unhide HRow1).set 72 (.int .i64 ((H.n + m : Nat) : Int))
          rw [hc_setn _ _ hT] at hrow2
          refine ⟨k + m, by have := unhide HRl; omega, ?_, by rw [hnx]; exact hrow2, hon1.trans (OnlyH.setCell _ _ _)⟩
          rw [ext_eq, ← unhide HR, List.drop_drop]
        case measure =>
          rw [ext_eq]
          have := unhide HM
          simp [strLen, ByteArray.size]
          omega
    · have hkk : k = s.length := by omega
      have hd0 : s.drop k = [] := List.drop_eq_nil_of_le (by omega)
      have ht0 : s.take k = s := List.take_of_length_le (by omega)
      rw [ht0] at hrow
      rw [hd0]
      have HR := hide hrow
      clear hrow hkk hd0 ht0
      go_wp2
      go_end0
      exact ⟨rfl, unhide HR, hon⟩
end Go.Proofs.YtbeionikiiccpaaDoor
